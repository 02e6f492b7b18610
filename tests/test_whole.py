"""Promises 0.1 to 0.6 and 0.19 to 0.21, over several books and all parts of the program."""

import itertools
import random
import unittest

from fingerbooks.book.books import DEEDS, Book
from fingerbooks.decide.churn import churn_bound, churning_plans, churning_row
from fingerbooks.decide.levels import busy_row, least_length_for, most_reached, most_touched
from fingerbooks.decide.papers import is_good, is_paper, least_bad, paper, stands_of
from fingerbooks.decide.plans import are_alike, failing_row, leads_back, straying_row, unlike_row
from fingerbooks.decide.prices import dear_row, is_price_paper, least_price, potential_of, price_of, price_paper
from fingerbooks.decide.tables import Table, moves
from fingerbooks.deeds.rows import is_done, new_row, row_after
from fingerbooks.seq.sequences import Sequence
from fingerbooks.text.shell import Shell
from fingerbooks.text.texts import read_book, read_paper, write_book, write_paper
from fingerbooks.use.bench import Bench
from tests.books import LESS, PAIRS, STARTS, TIGHT, TRIPLES, content_of, size
from tests.trying import FLAT, LOOSE, can_be_done, outcome, rows_up_to, some_books

OTHER_END = {"pushl": "pushr", "pushr": "pushl", "popl": "popr", "popr": "popl"}
FOR_PUTS = {(left, right): [0, 0, 1][left] + [0, 0, 1][right] for left in range(3) for right in range(3)}
FOR_TAKES = {(left, right): [0, 1, 0][left] + [0, 1, 0][right] for left in range(3) for right in range(3)}


class OfTwoOne(unittest.TestCase):
    """Promise 0.19."""

    def test_a_good_table_or_a_right_row_in_which_the_deed_fails(self):
        kinds = {True: 0, False: 0}
        for book in some_books(121):
            rows = rows_up_to(book, 12, 200)
            for deed in DEEDS:
                table, row = Table(book, deed), least_bad(book, deed)
                self.assertIs(table.is_good, row is None)
                self.assertIs(table.is_good, is_good(book, deed))
                self.assertIs(table.is_good, failing_row(book, (deed,)) is None)
                self.assertIs(is_paper(book, deed, ("good", table.stands)), table.is_good)
                self.assertEqual(paper(book, deed)[0], "good" if table.is_good else "bad")
                if row is None:
                    self.assertTrue(all(is_done(book, other, deed) for other in rows if can_be_done(other, deed)))
                else:
                    self.assertTrue(book.is_right(row) and not is_done(book, row, deed))
                    self.assertLessEqual(len(row), len(table))
                    self.assertEqual(size(book.arity, row), size(book.arity, failing_row(book, (deed,))))
                    self.assertIs(is_paper(book, deed, ("bad", row)), True)
                kinds[table.is_good] += 1
        self.assertGreater(min(kinds.values()), 20)

    def test_done_in_long_rows(self):
        rng = random.Random(122)
        for book in (PAIRS, TIGHT, TRIPLES):
            inner = [form for form in book.reader.forms if min(form) > 0]
            last = [form for form in book.reader.forms if min(form) == 0]
            for _ in range(30):
                row = tuple(rng.choices(inner, k=rng.randint(50, 190))) + (rng.choice(last),)
                for deed in DEEDS:
                    self.assertIs(is_done(book, row, deed), True)
                    self.assertIs(stands_of(book, row, deed)[-1] in Table(book, deed).finals, True)


def good_deeds(book):
    return [deed for deed in DEEDS if paper(book, deed)[0] == "good"]


class NoneIsTrue(unittest.TestCase):
    """Promise 0.20: for each statement a book of which it is not true."""

    def test_good_for_puts_and_not_for_takes(self):
        self.assertEqual(good_deeds(LOOSE)[:2], ["pushl", "pushr"])
        self.assertNotIn("popl", good_deeds(LOOSE))

    def test_good_at_the_left_end_and_not_at_the_right(self):
        self.assertEqual(good_deeds(LESS.mirrored()), ["pushl", "pushr", "popl"])

    def test_a_take_that_does_not_give_back_the_row(self):
        self.assertIs(leads_back(PAIRS, ("pushl", "popl")), False)
        row = straying_row(PAIRS, ("pushl", "popl"))
        self.assertNotEqual(row_after(PAIRS, row, ("pushl", "popl")), row)

    def test_puts_that_lead_to_other_rows_in_the_other_order(self):
        row = unlike_row(PAIRS, ("pushl", "pushr"), ("pushr", "pushl"))
        self.assertNotEqual(row_after(PAIRS, row, ("pushl", "pushr")), row_after(PAIRS, row, ("pushr", "pushl")))

    def test_few_levels_for_puts_and_for_takes_but_not_in_turns(self):
        for deed, potentials in zip(DEEDS, (FOR_PUTS, FOR_PUTS, FOR_TAKES, FOR_TAKES)):
            self.assertIsNotNone(least_price(TIGHT, deed, potentials))
        row = churning_row(TIGHT, ("pushl", "popl"), 60)
        at, touched = row, 0
        for deed in ("pushl", "popl") * 5:
            touched += price_of(TIGHT, at, deed, {})
            at = new_row(TIGHT, at, deed)
        self.assertEqual((at, touched), (row, 600))

    def test_more_pages_and_more_touched_levels(self):
        self.assertEqual(most_touched(FLAT, "pushl"), 1)
        self.assertEqual(most_touched(FLAT.with_line("page m last 2.0 to 0.0 pass 1.0 then m"), "pushl"), 2)
        self.assertIsNone(most_touched(PAIRS, "pushl"))
        without_pages = Book.from_lines(*[line for line in PAIRS.lines if not line.startswith("page")])
        self.assertEqual(most_touched(without_pages, "pushl"), 1)

    def test_done_in_all_rows_that_come_from_the_empty_one_and_not_good(self):
        book = PAIRS.with_line("read s 5.5 e")
        known, waiting = {()}, [()]
        for row in waiting:
            for deed in DEEDS:
                if can_be_done(row, deed):
                    self.assertIs(is_done(book, row, deed), True)
                    new = new_row(book, row, deed)
                    if new not in known and size(2, new) < 16:
                        known.add(new)
                        waiting.append(new)
        self.assertNotIn(((5, 5),), known)
        self.assertEqual(least_bad(book, "pushl"), ((5, 5),))
        # Nor does such a row come from longer ones: no level but the last one has another form than in PAIRS.
        self.assertEqual(good_deeds(PAIRS), list(DEEDS))

    def test_potentials_for_puts_and_others_for_takes_and_none_for_both(self):
        self.assertEqual(price_paper(TIGHT)[0], "rings")
        self.assertIs(is_price_paper(TIGHT, ("price", 1, FOR_PUTS, 10 ** 9)), False)
        self.assertIs(is_price_paper(TIGHT, ("price", 1, FOR_TAKES, 10 ** 9)), False)


class AllAreTrue(unittest.TestCase):
    """Promise 0.21."""

    def test_a_deed_changes_the_length_by_one_and_leaves_the_order(self):
        rng = random.Random(123)
        many = 0
        for book in some_books(124):
            for row, deed in itertools.product(rows_up_to(book, 12, 40), DEEDS):
                if not can_be_done(row, deed):
                    continue
                new = new_row(book, row, deed)
                if new is not None:
                    change = 1 if deed.startswith("push") else -1
                    self.assertEqual(size(book.arity, new) - size(book.arity, row), change)
                if not is_done(book, row, deed):
                    continue
                content = content_of(book.arity, row, rng.randint(0, 99))
                sequence = Sequence.of_row(book, row, content)
                if deed.startswith("push"):
                    behind = getattr(sequence, deed)(7)
                    expected = (7,) + content if deed == "pushl" else content + (7,)
                    # A take at the same end gives back the elements, if it is done.
                    taken = "popl" if deed == "pushl" else "popr"
                    if is_done(book, behind.outline, taken):
                        self.assertEqual(getattr(behind, taken)().content, content)
                else:
                    behind = getattr(sequence, deed)()
                    expected = content[1:] if deed == "popl" else content[:-1]
                self.assertEqual((behind.content, behind.outline), (expected, new))
                many += 1
        self.assertGreater(many, 1000)

    def test_the_mirrored_book_is_as_good(self):
        for book in some_books(125, 4):
            mirrored = book.mirrored()
            self.assertEqual(mirrored.mirrored(), book)
            for deed in DEEDS:
                other = OTHER_END[deed]
                self.assertIs(is_good(mirrored, other), is_good(book, deed))
                self.assertEqual(len(Table(mirrored, other)), len(Table(book, deed)))
                for function in (most_touched, most_reached):
                    self.assertEqual(function(mirrored, other), function(book, deed))
                self.assertEqual(least_length_for(mirrored, other, 3), least_length_for(book, deed, 3))
            for plan in (("pushl", "popl"), ("popr", "pushl"), ("pushr", "popr")):
                other = tuple(OTHER_END[deed] for deed in plan)
                self.assertIs(leads_back(mirrored, other), leads_back(book, plan))
                self.assertIs(failing_row(mirrored, other) is None, failing_row(book, plan) is None)
                self.assertEqual(churn_bound(mirrored, other), churn_bound(book, plan))
            self.assertEqual(price_paper(mirrored)[0], price_paper(book)[0])

    def test_a_page_that_no_deed_meets_can_go(self):
        gone = 0
        for book in some_books(126, 5):
            met = {
                (stand[2], "inner" if where == "inner" else "last", (form[0] + stand[1][0], form[1] + stand[1][1]))
                for deed in DEEDS for stand in Table(book, deed) for where, form, _ in moves(book, deed, stand)
            }
            for page in [page for page in book.machine.pages if page.place not in met][:8]:
                less = book.without(page.line)
                gone += 1
                for deed in DEEDS:
                    self.assertIs(is_good(less, deed), is_good(book, deed))
                    self.assertEqual(most_touched(less, deed), most_touched(book, deed))
                    self.assertEqual(least_price(less, deed, FOR_PUTS), least_price(book, deed, FOR_PUTS))
                    for row in rows_up_to(book, 8, 20):
                        self.assertEqual(outcome(less, (deed,), row), outcome(book, (deed,), row))
                self.assertEqual(Bench(book).loss(page.line), ())
        self.assertGreater(gone, 20)


class Parts(unittest.TestCase):
    """What the parts of the program tell together."""

    def test_they_agree(self):
        for book in some_books(127, 4):
            text = write_book(book)
            self.assertEqual(read_book(text), book)
            shell, bench = Shell(text), Bench(book)
            for deed in DEEDS:
                self.assertEqual(shell(f"good {deed}"), "yes" if is_good(book, deed) else "no")
                self.assertEqual(read_paper(write_paper(paper(book, deed))), paper(book, deed))
                if is_good(book, deed):
                    self.assertEqual(bench.demand(("good", deed)), ())
                most = most_touched(book, deed)
                if most is not None:
                    self.assertEqual(bench.demand(("levels", deed, most)), ())
                    if least_price(book, deed, {}) is not None:
                        self.assertLessEqual(least_price(book, deed, {}), most)
            self.assertEqual(churning_plans(book), churning_plans(read_book(text)))

    def test_equal_calls_return_equal_results(self):
        again = Book(PAIRS.reader, PAIRS.machine, dict(STARTS))
        plan, other = ("pushl", "popr"), ("popr", "pushl")
        for function, rest in (
            (paper, ("popl",)), (least_bad, ("popl",)), (most_touched, ("pushr",)), (busy_row, ("pushr", 7)),
            (unlike_row, (plan, other)), (are_alike, (plan, other)), (straying_row, (plan,)), (failing_row, (plan,)),
            (churn_bound, (plan,)), (churning_row, (plan, 1)), (churning_plans, ()), (price_paper, ()),
            (least_price, ("popl", FOR_PUTS)), (dear_row, ("popl", FOR_PUTS, 0)),
        ):
            self.assertEqual(function(PAIRS, *rest), function(PAIRS, *rest))
            self.assertEqual(function(PAIRS, *rest), function(again, *rest))

    def test_keywords_and_positions(self):
        # Parameters behind the star are passed by keyword, and those ahead of it by position.
        for call in (
            lambda: least_price(PAIRS, "popl", {}, 2), lambda: dear_row(PAIRS, "popl", {}, 1, 2),
            lambda: price_of(PAIRS, (), "pushl", {}, 2), lambda: Bench(PAIRS).undo(0), lambda: Bench(PAIRS).redo(0),
        ):
            self.assertRaises(TypeError, call)
        self.assertEqual(Bench(PAIRS).undo(many=0), ())
        self.assertEqual(potential_of(FOR_PUTS, ((2, 2), (1, 2))), 3)

    def test_only_benches_and_shells_change(self):
        table = Table(PAIRS, "popl")
        stands, lines = table.stands, PAIRS.lines
        bench = Bench(PAIRS)
        bench.erase("page m last -1.1 to 0.0 pass 0.0 then m")
        shell = Shell(write_book(PAIRS))
        shell("erase page m last -1.1 to 0.0 pass 0.0 then m")
        self.assertEqual((table.stands, PAIRS.lines), (stands, lines))
        self.assertEqual(Table(PAIRS, "popl"), table)


if __name__ == "__main__":
    unittest.main()
