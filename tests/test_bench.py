"""Promises 16.1 to 16.3 and the interface of fingerbooks.use.bench."""

import itertools
import random
import unittest

from fingerbooks.book.books import DEEDS, Book
from fingerbooks.decide import tables
from fingerbooks.decide.churn import churn_bound
from fingerbooks.decide.levels import most_touched
from fingerbooks.decide.papers import is_good
from fingerbooks.decide.plans import leads_back
from fingerbooks.errors import (
    InvalidBook, InvalidNumber, InvalidOperation, InvalidPage, InvalidReader, NothingToUndo, ParseError, Refused,
    TooMany, UnknownName,
)
from fingerbooks.use import bench as module
from fingerbooks.use.bench import Bench, read_pledge, write_pledge
from tests.books import LESS, PAIRS, STARTS, TIGHT
from tests.checks import check_first_error, check_raises
from tests.trying import FLAT, some_books
from tests.values import odd_values

FETCH = "page m inner 0.2 to 2.2 pass -1.0 then m"
EMPTIED = "page m last -1.1 to 0.0 pass 0.0 then m"
TEXTS = (
    (("good", "popl"), "good popl"), (("levels", "popl", 3), "levels popl 3"),
    (("levels", "pushr", 0), "levels pushr 0"),
    (("levels", "pushr", 10 ** 60 - 1), "levels pushr " + "9" * 60), (("back", ("pushl", "popl")), "back pushl+popl"),
    (("back", ("popr",)), "back popr"), (("calm", ("pushl", "popl")), "calm pushl+popl"),
    (("calm", ("pushl",) * 4), "calm pushl+pushl+pushl+pushl"),
)
NO_PLEDGES = (
    None, (), "good popl", ("good",), ("good", "pop"), ("good", "popl", 1), ["good", "popl"], ("Good", "popl"),
    ("levels", "popl"), ("levels", "popl", -1), ("levels", "popl", True), ("levels", "popl", "3"),
    ("levels", "pop", 3), ("levels", "popl", 10 ** 60), ("levels", "popl", 3, 4), ("back", ()), ("back", ("pop",)),
    ("back", ["popl"]), ("back", "popl"), ("back", ("popl",) * 5), ("back", ("popl",), 1), ("calm", ("popl", None)),
    ("calm",), ("bad", "popl"), (("good", "popl"),), ("good", ("popl",)), ("levels", ("popl",), 3),
)
NO_TEXTS = (
    None, "", "good", "good ", "good pop", "good  popl", " good popl", "good popl ", "good popl\n", "Good popl",
    "good popl 1",
    "levels popl", "levels popl -1", "levels popl 03", "levels popl +3", "levels popl 3 4", "levels popl " + "9" * 61,
    "levels popl -0", "levels popl x", "back", "back ", "back pushl +popl", "back pushl+", "back +popl",
    "back pushl+pop",
    "back pushl popl", "back " + "+".join(["popl"] * 5), "calm", "calm pushl,popl", ("good", "popl"), 1, ["good popl"],
)


def good_deeds(book):
    return [deed for deed in DEEDS if is_good(book, deed)]


def news(before, after):
    return tuple((deed, is_good(after, deed)) for deed in DEEDS if is_good(after, deed) != is_good(before, deed))


def holds(book, pledge):
    if pledge[0] == "good":
        return is_good(book, pledge[1])
    if pledge[0] == "levels":
        most = most_touched(book, pledge[1])
        return most is not None and most <= pledge[2]
    return leads_back(book, pledge[1]) if pledge[0] == "back" else churn_bound(book, pledge[1]) is not None


def told_of(bench):
    """All that can be asked of a bench, except for what it can take back and do again."""
    losses = [bench.loss(line) for line in bench.book.lines[-3:]]
    return bench.book, bench.pledges, len(bench), list(bench), str(bench), losses


class Interface(unittest.TestCase):
    def test_constants(self):
        self.assertEqual(module.MAX_PLEDGES, 10)

    def test_all_is_defined_here(self):
        for thing in (Bench, write_pledge, read_pledge):
            self.assertEqual(thing.__module__, "fingerbooks.use.bench")
        for name in ("book", "pledges"):
            self.assertIsInstance(vars(Bench)[name], property)
        for name in (
            "draw", "erase", "demand", "waive", "undo", "redo", "loss", "trial", "during", "twin", "__contains__",
            "__len__", "__iter__", "__eq__", "__str__",
        ):
            self.assertIn(name, vars(Bench))


class Pledges(unittest.TestCase):
    def test_texts_there_and_back(self):
        for pledge, text in TEXTS:
            self.assertEqual(write_pledge(pledge), text)
            self.assertEqual(read_pledge(text), pledge)

    def test_what_is_none(self):
        for value in NO_PLEDGES:
            with self.subTest(value=value):
                check_raises(self, InvalidOperation, lambda: write_pledge(value))
                check_raises(self, InvalidOperation, lambda: Bench(PAIRS).demand(value))
                check_raises(self, InvalidOperation, lambda: Bench(PAIRS).waive(value))
        for value in NO_TEXTS:
            with self.subTest(value=value):
                check_raises(self, ParseError, lambda: read_pledge(value), None)

    def test_values_of_every_kind(self):
        bench = Bench(PAIRS)
        for value in odd_values():
            with self.subTest(value=value):
                check_raises(self, InvalidOperation, lambda: write_pledge(value))
                check_raises(self, InvalidOperation, lambda: write_pledge(("good", value)))
                check_raises(self, InvalidOperation, lambda: write_pledge((value, "popl")))
                check_raises(self, InvalidOperation, lambda: bench.demand(value))
                check_raises(self, InvalidOperation, lambda: bench.waive(value))
                check_raises(self, ParseError, lambda: read_pledge(value), None)
                self.assertIs(value in bench, False)

    def test_they_hold_or_do_not(self):
        counts = {}
        pledges = [pledge for pledge, _ in TEXTS]
        pledges += [("good", deed) for deed in DEEDS] + [("levels", deed, most) for deed in DEEDS for most in (0, 1, 2)]
        pledges += [(word, plan) for word in ("back", "calm") for plan in itertools.product(DEEDS, repeat=2)]
        for book in some_books(91, 2):
            for pledge in pledges:
                expected = holds(book, pledge)
                bench = Bench(book)
                if expected:
                    self.assertEqual(bench.demand(pledge), ())
                    self.assertEqual(bench.pledges, (pledge,))
                else:
                    check_raises(self, Refused, lambda: bench.demand(pledge), pledge)
                    self.assertEqual(bench.pledges, ())
                counts[pledge[0], expected] = counts.get((pledge[0], expected), 0) + 1
        self.assertEqual(len(counts), 8)
        self.assertGreater(min(counts.values()), 3, counts)


class Changes(unittest.TestCase):
    def test_of_the_document(self):
        bench = Bench(TIGHT)
        self.assertEqual(bench.demand(("good", "pushl")), ())
        self.assertEqual(str(bench), "bench with 41 lines, 1 pledges")
        check_raises(self, Refused, lambda: bench.demand(("back", ("pushr",) * 2)), ("back", ("pushr", "pushr")))
        self.assertEqual(bench.loss("page m last 3.0 to 1.2 pass 0.0 then m"), ("pushl",))
        self.assertEqual(bench.erase(FETCH), (("popl", False),))
        self.assertEqual(bench.undo(), (("popl", True),))
        self.assertIs(("good", "pushl") in bench, True)

    def test_draw_and_erase(self):
        rng = random.Random(92)
        told = 0
        for book in (PAIRS, TIGHT, LESS, FLAT):
            bench = Bench(book)
            for _ in range(40):
                before = bench.book
                line = rng.choice([line for line in PAIRS.lines + TIGHT.lines if not line.startswith("ends")])
                if rng.random() < 0.5 and line in bench and line.split()[0] in ("read", "page"):
                    after, found = before.without(line), bench.erase(line)
                else:
                    after, found = before.with_line(line), bench.draw(line)
                self.assertEqual((bench.book, found), (after, news(before, after)))
                self.assertEqual((len(bench), list(bench)), (len(after), list(after)))
                told += len(found)
        self.assertGreater(told, 10)

    def test_pledges_refuse_changes(self):
        bench = Bench(PAIRS)
        for deed in DEEDS:
            bench.demand(("good", deed))
        bench.demand(("calm", ("pushl", "popl")))
        refused = 0
        for line in [line for line in PAIRS.lines if line.split()[0] in ("read", "page")]:
            less = PAIRS.without(line)
            wrong = [pledge for pledge in bench.pledges if not holds(less, pledge)]
            if wrong:
                before = told_of(bench)
                # The first one, in the order of demands.
                check_raises(self, Refused, lambda: bench.erase(line), wrong[0])
                self.assertEqual(told_of(bench), before)
                refused += 1
            else:
                bench.erase(line)
                self.assertEqual(bench.undo(), ())
            self.assertEqual(bench.book, PAIRS)
        self.assertGreater(refused, 20)
        check_raises(self, Refused, lambda: bench.draw("start popl n"), ("good", "popl"))
        bench.waive(("good", "popl"))
        self.assertEqual(bench.draw("start popl n"), (("popl", False),))
        check_raises(self, NothingToUndo, lambda: bench.redo(), 1)

    def test_the_order_of_demands(self):
        bench = Bench(PAIRS)
        bench.demand(("good", "popr"))
        bench.demand(("good", "popl"))
        page = "page m inner 0.2 to 2.2 pass -1.0 then m"
        other = "page m inner 2.0 to 2.2 pass 0.-1 then m"
        check_raises(self, Refused, lambda: bench.erase(page), ("good", "popl"))
        check_raises(self, Refused, lambda: bench.erase(other), ("good", "popr"))
        check_raises(self, Refused, lambda: bench.draw("start popl x"), ("good", "popl"))
        check_raises(self, Refused, lambda: bench.draw("start popr x"), ("good", "popr"))

    def test_ten_pledges_and_one_more(self):
        bench = Bench(FLAT)
        pledges = [("levels", deed, most) for most in (1, 2, 3) for deed in DEEDS]
        for pledge in pledges[:10]:
            self.assertEqual(bench.demand(pledge), ())
        self.assertEqual(bench.pledges, tuple(pledges[:10]))
        check_raises(self, TooMany, lambda: bench.demand(pledges[10]), 10)
        # What is none, or there already, is told first, and what does not hold last.
        check_raises(self, InvalidOperation, lambda: bench.demand(pledges[3]))
        check_raises(self, InvalidOperation, lambda: bench.demand(("levels", "popl")))
        check_raises(self, TooMany, lambda: bench.demand(("levels", "popl", 0)), 10)
        self.assertEqual(bench.waive(pledges[4]), ())
        self.assertEqual(bench.pledges, tuple(pledges[:4] + pledges[5:10]))
        check_raises(self, InvalidOperation, lambda: bench.waive(pledges[4]))
        check_raises(self, Refused, lambda: bench.demand(("levels", "popl", 0)), ("levels", "popl", 0))
        self.assertEqual(bench.demand(pledges[10]), ())
        self.assertEqual(bench.pledges[-1], pledges[10])

    def test_errors_of_lines(self):
        bench = Bench(PAIRS)
        before = told_of(bench)
        for line in ("", "fly", "page m", None, 1, ("arity 2",), "read s 8.1 o", "arity 4"):
            check_raises(self, ParseError, lambda: bench.draw(line), None)
        for line in (
            "", "fly", None, 1, "arity 2", "first s", "start popl m", FETCH + " ", ["arity 2"], "read s 7.7 o",
        ):
            check_raises(self, UnknownName, lambda: bench.erase(line), line)
            check_raises(self, UnknownName, lambda: bench.loss(line), line)
        check_raises(self, InvalidReader, lambda: bench.draw("first e"))
        check_raises(self, InvalidReader, lambda: bench.draw("read s 0.0 e"))
        check_raises(self, InvalidPage, lambda: bench.draw("arity 3"))
        check_raises(self, InvalidPage, lambda: bench.draw("page m inner 5.1 to 2.1 pass 1.0 then m"))
        self.assertEqual(told_of(bench), before)
        check_raises(self, NothingToUndo, lambda: bench.undo(), 1)

    def test_errors_of_tables_come_ahead_of_pledges(self):
        bench = Bench(PAIRS)
        bench.demand(("good", "popl"))
        kept = tables.MAX_TABLE
        try:
            tables.MAX_TABLE = 3
            check_raises(self, TooMany, lambda: Bench(PAIRS), 3)
            check_raises(self, TooMany, lambda: bench.erase(EMPTIED), 3)
            check_raises(self, TooMany, lambda: bench.draw("start popl n"), 3)
            check_raises(self, TooMany, lambda: bench.loss(EMPTIED), 3)
            check_raises(self, UnknownName, lambda: bench.loss("fly"), "fly")
            check_raises(self, TooMany, lambda: bench.demand(("good", "popr")), 3)
            check_raises(self, InvalidOperation, lambda: bench.demand(("good", "popl")))
            self.assertEqual(bench.waive(("good", "popl")), ())
            self.assertEqual(bench.undo(), ())
        finally:
            tables.MAX_TABLE = kept
        self.assertEqual((bench.book, bench.pledges), (PAIRS, (("good", "popl"),)))
        check_raises(self, Refused, lambda: bench.erase(EMPTIED), ("good", "popl"))

    def test_errors(self):
        check_first_error(self, Bench, (PAIRS,), ([(value, InvalidBook) for value in (None, PAIRS.lines, "b", 2)],))
        for value in odd_values():
            with self.subTest(value=value):
                if not isinstance(value, Book):
                    check_raises(self, InvalidBook, lambda: Bench(value))
                bench = Bench(FLAT)
                check_raises(self, ParseError, lambda: bench.draw(value), None)
                check_raises(self, UnknownName, lambda: bench.erase(value))
                check_raises(self, UnknownName, lambda: bench.loss(value))
                if type(value) is not int or not 0 <= value < 10 ** 60:
                    check_raises(self, InvalidNumber, lambda: bench.undo(many=value), value)
                    check_raises(self, InvalidNumber, lambda: bench.redo(many=value), value)
                elif value > 0:
                    check_raises(self, NothingToUndo, lambda: bench.undo(many=value), value)
                    check_raises(self, NothingToUndo, lambda: bench.redo(many=value), value)


class Undoing(unittest.TestCase):
    def made(self):
        """A bench behind five changes, and what could be told of it ahead of and behind each."""
        bench = Bench(TIGHT)
        told = [told_of(bench)]
        for change in (
            lambda: bench.erase(FETCH), lambda: bench.demand(("good", "pushl")), lambda: bench.draw("arity 2"),
            lambda: bench.draw(FETCH), lambda: bench.waive(("good", "pushl")),
        ):
            change()
            told.append(told_of(bench))
        return bench, told

    def test_taken_back_and_done_again(self):
        bench, told = self.made()
        self.assertEqual(told[2][:2], told[3][:2])
        for at in (4, 3, 2, 1, 0):
            found = bench.undo()
            self.assertEqual(told_of(bench), told[at])
            self.assertEqual(found, news(told[at + 1][0], told[at][0]))
        check_raises(self, NothingToUndo, lambda: bench.undo(), 1)
        self.assertEqual(told_of(bench), told[0])
        for at in (1, 2, 3, 4, 5):
            found = bench.redo()
            self.assertEqual(told_of(bench), told[at])
            self.assertEqual(found, news(told[at - 1][0], told[at][0]))
        check_raises(self, NothingToUndo, lambda: bench.redo(), 1)

    def test_many_at_once(self):
        for many, back in itertools.product(range(6), range(6)):
            bench, told = self.made()
            self.assertEqual(bench.undo(many=many), news(told[5][0], told[5 - many][0]))
            self.assertEqual(told_of(bench), told[5 - many])
            if back <= many:
                self.assertEqual(bench.redo(many=back), news(told[5 - many][0], told[5 - many + back][0]))
                self.assertEqual(told_of(bench), told[5 - many + back])
            else:
                check_raises(self, NothingToUndo, lambda: bench.redo(many=back), back)
                self.assertEqual(told_of(bench), told[5 - many])
            check_raises(self, NothingToUndo, lambda: bench.undo(many=6), 6)

    def test_another_change_ends_what_can_be_done_again(self):
        for change in (
            lambda bench: bench.draw("arity 2"), lambda bench: bench.demand(("good", "pushr")),
            lambda bench: bench.erase("page m last 3.0 to 1.2 pass 0.0 then m"),
        ):
            bench, told = self.made()
            bench.undo(many=4)
            change(bench)
            check_raises(self, NothingToUndo, lambda: bench.redo(), 1)
            bench.undo()
            self.assertEqual(told_of(bench), told[1])
            bench.redo()
            self.assertNotEqual((bench.book, bench.pledges), told[2][:2])
            bench.undo(many=2)
            self.assertEqual(told_of(bench), told[0])

    def test_what_is_refused_leaves_what_can_be_done_again(self):
        bench, told = self.made()
        bench.undo(many=3)
        for call, error in (
            (lambda: bench.draw("fly"), ParseError), (lambda: bench.erase("fly"), UnknownName),
            (lambda: bench.demand(("good", "popl")), Refused),
            (lambda: bench.waive(("good", "popl")), InvalidOperation),
            (lambda: bench.undo(many=3), NothingToUndo), (lambda: bench.undo(many=-1), InvalidNumber),
            (lambda: bench.erase("page m last 3.0 to 1.2 pass 0.0 then m"), Refused),
        ):
            check_raises(self, error, call)
            self.assertEqual(told_of(bench), told[2])
        self.assertEqual(bench.undo(many=0), ())
        self.assertEqual(bench.redo(many=0), ())
        bench.redo(many=3)
        self.assertEqual(told_of(bench), told[5])


class Blocks(unittest.TestCase):
    def test_as_it_was_behind_the_block(self):
        bench = Bench(TIGHT)
        bench.demand(("good", "pushl"))
        bench.erase(FETCH)
        bench.undo()
        before = told_of(bench)
        with bench.trial() as same:
            self.assertIs(same, bench)
            same.draw(EMPTIED)
            same.waive(("good", "pushl"))
            same.erase("page m last 3.0 to 1.2 pass 0.0 then m")
            same.undo(many=4)
            self.assertEqual(same.pledges, ())
        self.assertEqual(told_of(bench), before)
        # With the same changes to take back and to do again.
        self.assertEqual(bench.redo(), (("popl", False),))
        check_raises(self, NothingToUndo, lambda: bench.redo(), 1)
        bench.undo(many=2)
        check_raises(self, NothingToUndo, lambda: bench.undo(), 1)

    def test_errors_go_on(self):
        bench = Bench(TIGHT)
        bench.erase(FETCH)
        before = told_of(bench)
        for error in (KeyError("x"), Refused(None), StopIteration()):
            with self.assertRaises(type(error)) as caught:
                with bench.trial() as same:
                    same.undo()
                    same.erase(EMPTIED)
                    raise error
            self.assertIs(caught.exception, error)
            self.assertEqual(told_of(bench), before)
        bench.undo()
        self.assertEqual(bench.book, TIGHT)

    def test_blocks_in_blocks(self):
        bench = Bench(TIGHT)
        trial = bench.trial()
        with trial:
            bench.erase(FETCH)
            outer = told_of(bench)
            with bench.trial(), trial:
                bench.erase(EMPTIED)
                with trial:
                    bench.draw(EMPTIED)
                self.assertNotIn(EMPTIED, bench)
            self.assertEqual(told_of(bench), outer)
        self.assertEqual(bench.book, TIGHT)
        check_raises(self, NothingToUndo, lambda: bench.redo(), 1)
        # It can be taken for another block, then with what is there ahead of this.
        bench.erase(FETCH)
        with trial:
            bench.undo()
        self.assertNotIn(FETCH, bench)

    def test_during(self):
        bench = Bench(TIGHT)
        seen = []

        def call(same):
            seen.append(same is bench)
            return same.erase(FETCH), len(same)

        self.assertEqual(bench.during(call), ((("popl", False),), 40))
        self.assertEqual((seen, bench.book, len(bench)), ([True], TIGHT, 41))
        with self.assertRaises(ZeroDivisionError):
            bench.during(lambda same: same.erase(FETCH) and 1 // 0)
        self.assertEqual(bench.book, TIGHT)
        self.assertEqual(bench.during(lambda same: same.during(lambda other: other.erase(FETCH))), (("popl", False),))
        check_raises(self, Refused, lambda: bench.during(lambda same: same.demand(("levels", "popl", 3))))

    def test_twins(self):
        bench = Bench(TIGHT)
        bench.demand(("good", "pushl"))
        bench.erase(FETCH)
        bench.undo()
        twin = bench.twin()
        self.assertTrue(twin == bench and twin is not bench)
        self.assertEqual(told_of(twin), told_of(bench))
        self.assertEqual(twin.redo(), (("popl", False),))
        self.assertEqual(bench.book, TIGHT)
        self.assertFalse(twin == bench)
        twin.undo(many=2)
        check_raises(self, NothingToUndo, lambda: twin.undo(), 1)
        self.assertEqual(bench.pledges, (("good", "pushl"),))
        bench.waive(("good", "pushl"))
        check_raises(self, NothingToUndo, lambda: bench.redo(), 1)
        twin.redo(many=2)
        self.assertEqual((twin.pledges, FETCH in twin), ((("good", "pushl"),), False))


class Losses(unittest.TestCase):
    def test_of_each_line(self):
        lost = 0
        for book in (PAIRS, TIGHT, LESS, FLAT):
            bench = Bench(book)
            for line in [line for line in book.lines if line.split()[0] in ("read", "page")]:
                expected = tuple(deed for deed in good_deeds(book) if not is_good(book.without(line), deed))
                self.assertEqual(bench.loss(line), expected)
                lost += len(expected)
            self.assertEqual(bench.book, book)
        self.assertGreater(lost, 30)

    def test_pledges_do_not_matter_for_it(self):
        bench = Bench(PAIRS)
        bench.demand(("good", "popl"))
        self.assertEqual(bench.loss(EMPTIED), ("popl",))


class Values(unittest.TestCase):
    def test_lines_and_pledges_are_in_it(self):
        bench = Bench(PAIRS)
        bench.demand(("good", "popl"))
        for line in PAIRS.lines:
            self.assertIs(line in bench, True)
        self.assertIs(("good", "popl") in bench, True)
        for value in (("good", "popr"), ["good", "popl"], "good popl", FETCH + " ", "fly", PAIRS, PAIRS.lines):
            self.assertIs(value in bench, False)
        flat = Bench(FLAT)
        flat.demand(("levels", "popl", 1))
        self.assertIs(("levels", "popl", 1) in flat, True)
        self.assertIs(("levels", "popl", True) in flat, False)
        check_raises(self, InvalidOperation, lambda: flat.waive(("levels", "popl", True)))

    def test_equality(self):
        bench, other = Bench(PAIRS), Bench(Book(PAIRS.reader, PAIRS.machine, STARTS))
        self.assertTrue(bench == other)
        other.erase(EMPTIED)
        self.assertTrue(bench != other)
        other.draw(EMPTIED)
        # What was changed ahead of this does not matter.
        self.assertTrue(bench == other)
        for one in (bench, other):
            one.demand(("good", "popl"))
        bench.demand(("good", "popr"))
        self.assertFalse(bench == other)
        other.waive(("good", "popl"))
        other.demand(("good", "popr"))
        other.demand(("good", "popl"))
        # The order of demands does.
        self.assertFalse(bench == other)
        for value in odd_values() + [PAIRS, None]:
            self.assertIs(bench == value, False)
            self.assertIs(bench != value, True)

    def test_iterating(self):
        bench = Bench(PAIRS)
        self.assertEqual(tuple(bench), PAIRS.lines)
        self.assertEqual(len(bench), len(PAIRS))
        for name in ("book", "pledges"):
            with self.assertRaises(AttributeError):
                setattr(bench, name, None)
        with self.assertRaises(TypeError):
            iter(bench.trial())


if __name__ == "__main__":
    unittest.main()
