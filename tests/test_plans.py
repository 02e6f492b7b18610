"""Promise 13.1 and the interface of fingerbooks.decide.plans."""

import itertools
import random
import unittest

from fingerbooks.base.forms import length_of
from fingerbooks.book.books import DEEDS, Book
from fingerbooks.decide import courses, plans
from fingerbooks.decide.plans import are_alike, failing_row, is_plan, leads_back, straying_row, unlike_row
from fingerbooks.errors import InvalidBook, InvalidOperation, TooMany
from fingerbooks.read.readers import Reader
from tests.books import LESS, PAIRS, STARTS, TIGHT, TRIPLES, plain, size, wide
from tests.checks import check_first_error, check_raises
from tests.trying import EMPTY, FLAT, LOOSE, check_least, loose_book, outcome, rows_up_to, some_books, taking_book
from tests.values import odd_values

NO_BOOKS = [(value, InvalidBook) for value in (None, PAIRS.reader, PAIRS.lines, "book", 2)]
NO_PLANS = [(value, InvalidOperation) for value in ((), ("pushl",) * 5, ["pushl"], "pushl", ("push",), None)]
OF_ONE = (leads_back, straying_row, failing_row)
OF_TWO = (are_alike, unlike_row)


def strays(book, plan, row):
    word, behind = outcome(book, plan, row)
    return word == "done" and behind != row


def fails(book, plan, row):
    return outcome(book, plan, row)[0] == "failed"


def are_unlike(book, one, other, row):
    """Whether a row shows that two plans are not alike."""
    ends = [outcome(book, plan, row) for plan in (one, other)]
    return "done" in (ends[0][0], ends[1][0]) and ends[0] != ends[1]


def some_plans(rng, many, longest=2):
    found = [("pushl", "popl"), ("popl", "pushl"), ("popr", "popl"), ("pushr", "popl")]
    return rng.sample(found, 2) + [tuple(rng.choices(DEEDS, k=rng.randint(1, longest))) for _ in range(many)]


def books_with_plans(seed, many):
    """Books by rule with long plans, and by chance with short ones: these come to too many things that matter."""
    rng = random.Random(seed)
    found = [(book, some_plans(rng, 3, 4)) for book in (PAIRS, TIGHT, LESS, LOOSE, TRIPLES, wide(), FLAT, EMPTY)]
    found += [(book, some_plans(rng, 3, 3)) for book in some_books(seed, many)[9:9 + 2 * many]]
    return found + [(loose_book(rng, rng.choice((2, 3)), 2, 40), some_plans(rng, 2)) for _ in range(many)]


class Interface(unittest.TestCase):
    def test_constants(self):
        self.assertEqual(plans.MAX_PLAN, 4)

    def test_functions_are_defined_here(self):
        for function in (is_plan,) + OF_ONE + OF_TWO:
            self.assertEqual(function.__module__, "fingerbooks.decide.plans")


class Plans(unittest.TestCase):
    def test_of_one_to_four_deeds(self):
        for many in range(7):
            for plan in itertools.islice(itertools.product(DEEDS, repeat=many), 30):
                self.assertIs(is_plan(plan), 1 <= many <= 4)
                self.assertIs(is_plan(list(plan)), False)

    def test_what_is_none(self):
        for value in ("pushl", ("pushl", "pop"), ("pushl", ["popl"]), (("pushl",),), ("Pushl",), {"pushl": "popl"}):
            self.assertIs(is_plan(value), False)
        for value in odd_values():
            with self.subTest(value=value):
                self.assertIs(is_plan(value), False)
                self.assertIs(is_plan(("pushl", value)), False)


class Least(unittest.TestCase):
    def test_rows_are_those_of_all_right_rows(self):
        kinds = {}
        for book, chosen in books_with_plans(51, 8):
            rows = rows_up_to(book, 14, 300)
            for plan in chosen:
                found = straying_row(book, plan)
                check_least(self, book, found, lambda row: strays(book, plan, row), rows)
                self.assertIs(leads_back(book, plan), found is None)
                failing = failing_row(book, plan)
                check_least(self, book, failing, lambda row: fails(book, plan, row), rows)
                for key in (("strays", found is None), ("fails", failing is None)):
                    kinds[key] = kinds.get(key, 0) + 1
            for one, other in zip(chosen, chosen[1:] + [chosen[-1][::-1]]):
                found = unlike_row(book, one, other)
                check_least(self, book, found, lambda row: are_unlike(book, one, other, row), rows)
                self.assertIs(are_alike(book, one, other), found is None)
                kinds["alike", found is None] = kinds.get(("alike", found is None), 0) + 1
        self.assertEqual(len(kinds), 6)
        self.assertGreater(min(kinds.values()), 15, kinds)

    def test_rows_become_shorter_and_longer(self):
        # In these books several levels come and go at once, and states are hardly ever what makes a deed fail.
        rng = random.Random(53)
        for _ in range(25):
            book = loose_book(rng, rng.choice((2, 3)), rng.choice((2, 3)), 50)
            rows = rows_up_to(book, 12, 300)
            for plan in [tuple(rng.choices(DEEDS, k=rng.randint(1, 2))) for _ in range(3)]:
                check_least(self, book, straying_row(book, plan), lambda row: strays(book, plan, row), rows)
                check_least(self, book, failing_row(book, plan), lambda row: fails(book, plan, row), rows)
                found = unlike_row(book, plan, plan[:1])
                check_least(self, book, found, lambda row: are_unlike(book, plan, plan[:1], row), rows)

    def test_of_the_document(self):
        self.assertEqual(
            [leads_back(PAIRS, ("pushl", "popl")), straying_row(PAIRS, ("pushl", "popl"))], [False, ((3, 0),)],
        )
        self.assertIs(leads_back(TIGHT, ("pushl", "popl")), False)
        self.assertIs(are_alike(PAIRS, ("pushl", "pushr"), ("pushr", "pushl")), False)
        self.assertIs(are_alike(PAIRS, ("pushl",), ("pushl",)), True)
        self.assertEqual([sum(form) for form in unlike_row(PAIRS, ("pushl", "pushr"), ("pushr", "pushl"))], [3])
        self.assertEqual([failing_row(PAIRS, ("popl", "popr")), failing_row(LOOSE, ("pushl", "popl"))], [None, None])
        self.assertEqual(length_of(2, failing_row(LOOSE, ("popl",))), 5)

    def test_plans_of_four_deeds(self):
        for plan in (("pushl",) * 4, ("popr",) * 4, ("popl", "popr", "pushl", "pushr"), DEEDS):
            for book in (PAIRS, TIGHT, TRIPLES):
                self.assertIsNone(failing_row(book, plan))
                rows = rows_up_to(book, 20, 300)
                check_least(self, book, straying_row(book, plan), lambda row: strays(book, plan, row), rows)
        # Whatever is put first, four elements more are there behind it, but they stand in other forms.
        self.assertIs(are_alike(PAIRS, ("pushl", "pushr") * 2, ("pushr", "pushl") * 2), False)


def length_or_none(book, row):
    return None if row is None else length_of(book.arity, row)


class ByForce(unittest.TestCase):
    def check_plans(self, book, one, other, rows):
        """What is found for two plans is as short as any of all right rows up to a length; tells the lengths."""
        straying, failing = straying_row(book, one), failing_row(book, one)
        check_least(self, book, straying, lambda row: strays(book, one, row), rows)
        check_least(self, book, failing, lambda row: fails(book, one, row), rows)
        unlike, turned = unlike_row(book, one, other), unlike_row(book, other, one)
        check_least(self, book, unlike, lambda row: are_unlike(book, one, other, row), rows)
        self.assertEqual(length_or_none(book, unlike), length_or_none(book, turned))
        check_least(self, book, turned, lambda row: are_unlike(book, one, other, row), rows)
        return [length_or_none(book, row) for row in (straying, failing, unlike)]

    def test_drawn_books_and_plans_of_two_and_three_deeds(self):
        rng = random.Random(56)
        lengths = {}
        for _ in range(3000):
            book = taking_book(rng)
            # Far fewer than so many right rows of these books have a length up to 6, so these are all.
            rows = rows_up_to(book, 6)
            self.assertLess(len(rows), 1000)
            for many in (2, 3):
                one, other = [tuple(rng.choices(DEEDS, (1, 1, 3, 3), k=part)) for part in (many, rng.choice((2, 3)))]
                for kind, length in enumerate(self.check_plans(book, one, other, rows)):
                    lengths[kind, length] = lengths.get((kind, length), 0) + 1
        for kind in range(3):
            self.assertGreater(min(lengths[kind, length] for length in (None, 0, 1, 2, 3, 4)), 5, lengths)

    def test_drawn_books_with_many_rows(self):
        rng = random.Random(57)
        for _ in range(60):
            book = loose_book(rng, rng.choice((2, 3)), rng.choice((1, 2)), 40)
            rows = rows_up_to(book, 6, 10 ** 6)
            for many in (2, 3):
                self.check_plans(book, tuple(rng.choices(DEEDS, k=many)), tuple(rng.choices(DEEDS, k=2)), rows)


class Edges(unittest.TestCase):
    def test_the_empty_row(self):
        # A take cannot be done there, and so does not fail.
        one = Book.from_lines(
            "arity 2", "first s", "ends e", "read s 0.1 e", "read s 1.0 e", *[f"start {deed} m" for deed in DEEDS],
            "page m last 1.-1 to 0.0 pass 0.0 then m", "page m last -1.1 to 0.0 pass 0.0 then m",
        )
        self.assertIsNone(failing_row(one, ("popl", "popl", "popl")))
        self.assertEqual(straying_row(one, ("popl", "popl")), None)
        self.assertEqual(size(2, straying_row(one, ("popl",))), 1)
        self.assertEqual(size(2, failing_row(one, ("pushl",))), 1)
        self.assertIsNone(failing_row(one, ("popl", "pushl", "popr", "pushr")))
        # In the empty row just the second one is done; in all others neither.
        self.assertEqual(unlike_row(one, ("popl", "pushl"), ("pushl", "popl")), ())
        # Neither is done anywhere: the one stops, and the other fails.
        self.assertIs(are_alike(one, ("popl", "popl"), ("pushl", "pushl")), True)

    def test_books_of_the_empty_row_alone(self):
        self.assertEqual([failing_row(EMPTY, (deed,)) for deed in DEEDS], [(), (), None, None])
        self.assertEqual([straying_row(EMPTY, (deed,)) for deed in DEEDS], [None] * 4)
        self.assertIs(are_alike(EMPTY, ("popl",), ("pushl", "pushl")), True)

    def test_books_without_pages(self):
        # Three elements at a side are no more than any form can have, so all puts are done as far as rows are right.
        reads = {("s", (left, right)): "e" for left in range(4) for right in range(4) if left + right > 0}
        book = plain(Reader("s", ("e",), reads))
        self.assertIs(are_alike(book, ("pushl", "pushr"), ("pushr", "pushl")), True)
        self.assertIs(leads_back(book, ("pushl", "popl")), True)
        self.assertIs(leads_back(book, ("popl", "pushl")), True)
        self.assertIs(leads_back(book, ("pushl", "popr")), False)
        self.assertIs(are_alike(book, ("pushl", "popl"), ("pushr", "popr")), False)
        self.assertEqual(failing_row(book, ("pushl", "popl")), ((3, 0),))
        self.assertIs(type(failing_row(FLAT, ("popl", "pushr", "pushr"))), tuple)

    def test_a_row_that_is_right_again_behind_a_wrong_one(self):
        # The first deed leads to a row that is not right, so the plan is not done, although the last row would be.
        book = PAIRS.without("read s 3.0 e")
        self.assertEqual(failing_row(book, ("pushl", "popl")), ((2, 0),))
        self.assertNotEqual(straying_row(book, ("pushl", "popl")), ((2, 0),))

    def test_a_row_that_may_go_on_but_has_ended(self):
        # A take fetches through an empty level all that is there, so the new row ends two levels further out. It would
        # not be right if it had an empty level there, but it has none.
        book = Book.from_lines(
            "arity 2", "first s", "ends e q", "read s 1.1 p", "read p 0.0 z", "read z 0.1 e", "read q 1.1 e",
            "read s 4.1 q", "read s 4.0 e", "read s 0.3 e", "read s 0.2 e", "read s 0.1 e",
            *[f"start {deed} n" for deed in DEEDS], "page n inner 0.1 to 4.1 pass -2.0 then n",
            "page n inner -2.0 to 0.0 pass -1.0 then n", "page n last -1.1 to 0.0 pass 0.0 then n",
            "page n last 3.1 to 4.0 pass 0.0 then n", "page n last 3.0 to 0.3 pass 0.0 then n",
            "page n last -1.3 to 0.2 pass 0.0 then n", "page n last -1.2 to 0.1 pass 0.0 then n",
        )
        row = ((1, 1), (0, 0), (0, 1))
        self.assertEqual(outcome(book, ("popl",), row), ("done", ((4, 1),)))
        self.assertEqual(failing_row(book, ("popl",)), ((4, 1), (1, 1)))
        self.assertEqual(failing_row(book, ("popl",) * 4), ((4, 1), (1, 1)))
        for plan in (("popl",), ("popl", "popl"), ("popl", "popl", "popl"), ("popl", "pushr")):
            rows = rows_up_to(book, 12)
            check_least(self, book, straying_row(book, plan), lambda row: strays(book, plan, row), rows)
            check_least(self, book, failing_row(book, plan), lambda row: fails(book, plan, row), rows)
            check_least(
                self, book, unlike_row(book, plan, ("popl",)), lambda row: are_unlike(book, plan, ("popl",), row), rows,
            )

    def test_a_deed_fetches_more_than_there_is_behind_a_level(self):
        # In a row of two levels popl fetches four elements where there are two. So the row behind it, and the one that
        # popr would make of it, will not be, although as many elements less two would be none at all.
        book = Book.from_lines(
            "arity 2", "first s", "ends o", "start pushl m", "start pushr n", "start popl t", "start popr u",
            "read s 0.1 o", "read s 1.0 o", "read s 3.0 o", "read s 0.0 z", "read o 0.1 o", "read z 0.1 o",
            "page t inner -1.0 to 3.0 pass -2.0 then t", "page u inner 0.-1 to 0.1 pass 0.-1 then u",
            "page u inner 3.-1 to 3.1 pass 0.-1 then u", "page t last -1.1 to 0.0 pass 0.0 then t",
            "page u last 1.-1 to 0.0 pass 0.0 then u", "page t last -1.2 to 0.1 pass 0.0 then t",
            "page u last 2.-1 to 1.0 pass 0.0 then u",
        )
        row = ((0, 0), (0, 1))
        plans_of_two = ("popl", "popr"), ("popr", "popl")
        self.assertEqual([outcome(book, plan, row) for plan in plans_of_two], [("failed", None), ("done", ())])
        self.assertEqual(unlike_row(book, *plans_of_two), row)
        self.assertEqual(unlike_row(book, *plans_of_two[::-1]), row)
        self.assertIs(are_alike(book, *plans_of_two), False)
        self.assertIs(are_alike(book.mirrored(), ("popr", "popl"), ("popl", "popr")), False)

    def test_a_deed_fails_ahead_of_one_that_fetches_too_much(self):
        # In the empty row the second put makes a row that is not right, and a take from this row would break.
        book = Book.from_lines(
            "arity 2", "first s", "ends o", "start pushl t", "start pushr t", "start popl t", "start popr m",
            "read s 0.0 z", "read s 1.0 o", "read s 1.2 o", "read z 4.2 o", "read o 4.2 o",
            "page t inner -1.0 to 1.2 pass -1.-1 then m", "page t last 1.1 to 0.0 pass 0.1 then t",
        )
        plan = ("pushl", "pushr", "popl", "popr")
        self.assertEqual(outcome(book, plan[:1], ()), ("done", ((1, 0),)))
        self.assertEqual([outcome(book, plan[:many], ())[0] for many in (2, 3, 4)], ["failed"] * 3)
        self.assertEqual([failing_row(book, plan[:many]) for many in (2, 3, 4)], [()] * 3)

    def test_pages_for_new_levels(self):
        # What comes to a new level is put to another side there by the note that is left.
        book = PAIRS
        for page in ("page m last 1.0 to 0.1 pass 0.0 then m", "page m last 0.1 to 1.0 pass 0.0 then m"):
            book = book.with_line(page)
        for plan in (("pushl",), ("pushl", "pushl"), ("pushr", "popl"), ("pushl", "popl", "pushl"), ("pushl",) * 4):
            rows = rows_up_to(book, 12)
            found = straying_row(book, plan), failing_row(book, plan), unlike_row(book, plan, plan[1:] + ("pushr",))
            check_least(self, book, found[0], lambda row: strays(book, plan, row), rows)
            check_least(self, book, found[1], lambda row: fails(book, plan, row), rows)
            check_least(
                self, book, found[2], lambda row: are_unlike(book, plan, plan[1:] + ("pushr",), row), rows,
            )
        # At a last level of 4.0 one bundle goes to a new level by one book, and stays there at the other side.
        one = PAIRS.with_line("page m last 4.0 to 2.0 pass 1.0 then k")
        other = one.with_line("page k last 1.0 to 0.1 pass 0.0 then m")
        for book, behind in ((one, ((2, 0), (1, 0))), (other, ((2, 0), (0, 1)))):
            self.assertEqual(outcome(book, ("pushl",), ((3, 0),))[0], "failed")
            self.assertEqual(failing_row(book, ("pushl",)), ((3, 0),))
            right = book.with_line("read s 2.0 o")
            self.assertEqual(outcome(right, ("pushl",), ((3, 0),)), ("done", behind))
            rows = rows_up_to(right, 10)
            for plan in (("pushl", "popl"), ("pushl", "popr"), ("pushl", "pushl", "popl")):
                check_least(self, right, straying_row(right, plan), lambda row: strays(right, plan, row), rows)
                check_least(self, right, failing_row(right, plan), lambda row: fails(right, plan, row), rows)

        # Here the row behind the put is right only if the bundle is put to the right side of the new level.
        right = other.with_line("ends e o t").with_line("read s 2.0 t").with_line("read t 0.1 e")
        self.assertEqual(outcome(right, ("pushl",), ((3, 0),)), ("done", ((2, 0), (0, 1))))
        found = failing_row(right, ("pushl",))
        check_least(self, right, found, lambda row: fails(right, ("pushl",), row), rows_up_to(right, 10))
        self.assertEqual(size(2, found), 10)

    def test_plans_that_are_not_the_same_everywhere_but_alike(self):
        self.assertIs(are_alike(PAIRS, ("pushl",), ("pushl", "pushl", "popl")), False)
        self.assertIs(are_alike(LOOSE, ("popl", "pushl"), ("popl", "pushl")), True)
        for plan in (("popl", "popr"), ("pushl", "popr", "popl", "pushr")):
            self.assertIs(are_alike(wide(), plan, plan), True)

    def test_too_many(self):
        kept = courses.MAX_NODES
        try:
            courses.MAX_NODES = 3
            for function in OF_ONE:
                check_raises(self, TooMany, lambda: function(PAIRS, ("pushl", "popl")), 3)
                check_raises(self, InvalidOperation, lambda: function(PAIRS, ()))
            for function in OF_TWO:
                check_raises(self, TooMany, lambda: function(PAIRS, ("pushl",), ("pushr", "popl")), 3)
        finally:
            courses.MAX_NODES = kept

    def test_more_than_20000_things_matter(self):
        # Nearly all rows are right, and any bundles can come to each level, with two notes, for each of the deeds.
        book = loose_book(random.Random(54), 2, 3, 200)
        check_raises(self, TooMany, lambda: unlike_row(book, DEEDS, DEEDS[::-1]), 20000)

    def test_errors(self):
        for function in OF_ONE:
            check_first_error(self, function, (PAIRS, ("pushl",)), (NO_BOOKS, NO_PLANS))
        for function in OF_TWO:
            check_first_error(self, function, (PAIRS, ("pushl",), ("popl",)), (NO_BOOKS, NO_PLANS, NO_PLANS))

    def test_values_of_every_kind(self):
        for value in odd_values():
            with self.subTest(value=value):
                for plan in (value, (value,), ("popl", value)):
                    for function in OF_ONE:
                        check_raises(self, InvalidOperation, lambda: function(PAIRS, plan))
                    for function in OF_TWO:
                        check_raises(self, InvalidOperation, lambda: function(PAIRS, plan, ("popl",)))
                        check_raises(self, InvalidOperation, lambda: function(PAIRS, ("popl",), plan))


class Mirrors(unittest.TestCase):
    def test_mirrored_books_and_books_with_other_names(self):
        other = {"pushl": "pushr", "pushr": "pushl", "popl": "popr", "popr": "popl"}
        for book, chosen in books_with_plans(55, 3):
            states = {state: "x" + state for state in book.reader.states}
            renamed = book.renamed(states, {note: "y" + note for note in book.notes})
            for plan in chosen[:4]:
                mirrored = tuple(other[deed] for deed in plan)
                for same, kind in ((book.mirrored(), mirrored), (renamed, plan)):
                    for function in (straying_row, failing_row):
                        rows = function(book, plan), function(same, kind)
                        self.assertIs(rows[0] is None, rows[1] is None)
                        if rows[0] is not None:
                            self.assertEqual(size(book.arity, rows[0]), size(book.arity, rows[1]))

    def test_equal_calls(self):
        book = Book(PAIRS.reader, PAIRS.machine, STARTS)
        for plan in (("pushl", "popl"), ("popr", "popl", "pushl")):
            self.assertEqual(straying_row(book, plan), straying_row(PAIRS, plan))


if __name__ == "__main__":
    unittest.main()
