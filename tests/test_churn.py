"""Promise 14.1 and the interface of fingerbooks.decide.churn."""

import itertools
import unittest

from fingerbooks.base.forms import length_of
from fingerbooks.book.books import DEEDS, Book
from fingerbooks.decide import churn, courses
from fingerbooks.decide.churn import churn_bound, churning_plans, churning_row, is_churning
from fingerbooks.errors import InvalidBook, InvalidNumber, InvalidOperation, InvalidRow, TooMany
from tests.books import LESS, PAIRS, TIGHT, TRIPLES, right_rows, size, wide
from tests.checks import check_first_error, check_raises
from tests.trying import EMPTY, FLAT, LOOSE, check_least, churns, rows_up_to, some_books
from tests.values import odd_values

NO_BOOKS = [(value, InvalidBook) for value in (None, PAIRS.reader, PAIRS.lines, "book", 2)]
NO_PLANS = [(value, InvalidOperation) for value in ((), ("pushl",) * 5, ["pushl"], "pushl", ("push",), None)]
NO_NUMBERS = [(value, InvalidNumber) for value in (0, -1, 101, True, None, "1", 10 ** 99)]
NO_ROWS = [(value, InvalidRow) for value in (((0, 0),), ((4, 1),), [(1, 1)], None, "1.1", ((1, 1),) * 201)]
PLANS = [
    ("pushl", "popl"), ("popl", "pushl"), ("pushr", "popr"), ("pushl", "popr"), ("popr", "pushl"),
    ("pushl", "pushr", "popl", "popr"), ("popl", "popl", "pushl", "pushl"), ("pushl", "popl", "pushr", "popr"),
    ("popr", "popl", "pushr", "pushl"), ("popl",), ("pushr", "pushr"), ("popl", "pushl", "popl"),
]


def levels_of_churning(book, plan, levels):
    """The numbers of levels of right rows with at most so many in which a plan churns, by trying."""
    return sorted({len(row) for row in right_rows(book.reader, levels) if churns(book, plan, row)})


class Interface(unittest.TestCase):
    def test_constants(self):
        self.assertEqual(churn.MAX_LEVELS, 100)

    def test_functions_are_defined_here(self):
        for function in (is_churning, churn_bound, churning_row, churning_plans):
            self.assertEqual(function.__module__, "fingerbooks.decide.churn")


class Rows(unittest.TestCase):
    def test_as_the_deeds_go(self):
        counts = {True: 0, False: 0}
        for book in some_books(61):
            for row, plan in itertools.product(rows_up_to(book, 10, 60), PLANS):
                found = is_churning(book, plan, row)
                self.assertIs(found, churns(book, plan, row))
                counts[found] += 1
        self.assertGreater(min(counts.values()), 300)

    def test_edges(self):
        # There is no level in the empty row, so no plan churns there.
        self.assertIs(is_churning(PAIRS, ("pushl", "popl"), ()), False)
        self.assertIs(is_churning(PAIRS, ("popl", "pushl"), ()), False)
        # The row between can be empty: then all of its levels are touched.
        self.assertIs(is_churning(PAIRS, ("popl", "pushl"), ((1, 0),)), True)
        self.assertIs(is_churning(PAIRS, ("popl", "popl", "pushl", "pushl"), ((1, 0),)), False)
        # It leads back, but not all levels are touched.
        self.assertIs(is_churning(PAIRS, ("pushl", "popl"), ((2, 1), (2, 1))), False)
        # It leads to another row.
        self.assertIs(is_churning(PAIRS, ("pushl", "popl"), ((3, 0),)), False)
        self.assertIs(is_churning(PAIRS, ("pushl",), ((1, 1),)), False)

    def test_errors(self):
        check_first_error(self, is_churning, (PAIRS, ("pushl",), ((1, 1),)), (NO_BOOKS, NO_PLANS, NO_ROWS))
        kept = courses.MAX_NODES
        try:
            courses.MAX_NODES = 1
            self.assertIs(is_churning(TIGHT, ("pushl", "popl"), ((2, 1), (2, 2))), True)
        finally:
            courses.MAX_NODES = kept


class Bounds(unittest.TestCase):
    def test_least_rows_compared_with_all_rows_up_to_some_elements(self):
        counts = {True: 0, False: 0}
        for book in some_books(62, 6):
            rows = rows_up_to(book, 14, 300)
            for plan, levels in itertools.product(PLANS, (1, 2, 3)):
                found = churning_row(book, plan, levels)
                check_least(
                    self, book, found, lambda row: len(row) == levels and churns(book, plan, row), rows,
                )
                counts[found is None] += 1
        self.assertGreater(min(counts.values()), 100)

    def test_the_greatest_number_of_levels(self):
        kinds = {}
        for book in some_books(63, 6):
            for plan in PLANS:
                bound = churn_bound(book, plan)
                kinds[bound] = kinds.get(bound, 0) + 1
                if bound is None:
                    # Then there is a row with at least so many levels.
                    rows = [churning_row(book, plan, levels) for levels in range(30, 36)]
                    self.assertTrue(any(row is not None and churns(book, plan, row) for row in rows))
                    continue
                self.assertIs(type(bound), int)
                if bound > 0:
                    self.assertTrue(churns(book, plan, churning_row(book, plan, bound)))
                for levels in range(bound + 1, bound + 4):
                    self.assertIsNone(churning_row(book, plan, levels))
        self.assertGreater(kinds[None], 5)
        self.assertGreater(kinds[0], 100)
        self.assertGreater(kinds[1], 50)

    def test_compared_with_all_rows_of_few_levels(self):
        for book in (PAIRS, TIGHT, LESS, LOOSE, FLAT, EMPTY):
            for plan in PLANS:
                found = levels_of_churning(book, plan, 2)
                self.assertEqual(found, [at for at in (1, 2) if churning_row(book, plan, at) is not None])
                bound = churn_bound(book, plan)
                self.assertTrue(bound is None or bound >= max([0] + found))

    def test_of_the_document(self):
        self.assertEqual(
            [churn_bound(book, ("pushl", "popl")) for book in (PAIRS, TIGHT)] + [churn_bound(TIGHT, ("pushl",))],
            [1, None, 0],
        )
        self.assertEqual(length_of(2, churning_row(TIGHT, ("pushl", "popl"), 2)), 5)
        self.assertIsNone(churning_row(PAIRS, ("pushl", "popl"), 2))
        self.assertIs(is_churning(TIGHT, ("pushl", "popl"), ((2, 1), (2, 2))), True)

    def test_of_one_level_and_of_100(self):
        self.assertIn(churning_row(TIGHT, ("pushl", "popl"), 1), (((1, 0),), ((0, 1),)))
        for plan in (("pushl", "popl"), ("pushr", "popr"), ("popl", "pushl")):
            row = churning_row(TIGHT, plan, 100)
            self.assertEqual(len(row), 100)
            self.assertIs(is_churning(TIGHT, plan, row), True)
        row = churning_row(TIGHT, ("pushl", "popl"), 100)
        self.assertEqual(row[:99], ((2, 1),) * 99)

    def test_a_greatest_number_above_one(self):
        # The level behind the first one is the last one, so plans cannot churn through more than two.
        book = TIGHT
        for line in [line for line in TIGHT.lines if line.startswith("read o") and line.endswith("o")]:
            book = book.without(line)
        self.assertEqual(churn_bound(book, ("pushl", "popl")), 2)
        self.assertEqual([len(churning_row(book, ("pushl", "popl"), levels)) for levels in (1, 2)], [1, 2])
        self.assertIsNone(churning_row(book, ("pushl", "popl"), 3))

    def test_plans_of_two_deeds(self):
        for book in some_books(64, 3):
            self.assertEqual(
                churning_plans(book),
                tuple(plan for plan in sorted(itertools.product(DEEDS, repeat=2)) if churn_bound(book, plan) is None),
            )
        self.assertEqual(churning_plans(PAIRS), ())
        self.assertEqual(churning_plans(TIGHT), tuple(sorted(churning_plans(TIGHT))))
        self.assertIn(("pushl", "popl"), churning_plans(TIGHT))
        self.assertEqual(churning_plans(EMPTY), ())

    def test_too_many(self):
        kept = courses.MAX_NODES
        try:
            courses.MAX_NODES = 2
            check_raises(self, TooMany, lambda: churn_bound(TIGHT, ("pushl", "popl")), 2)
            check_raises(self, TooMany, lambda: churning_row(TIGHT, ("pushl", "popl"), 5), 2)
            check_raises(self, TooMany, lambda: churning_plans(TIGHT), 2)
            check_raises(self, InvalidNumber, lambda: churning_row(TIGHT, ("pushl", "popl"), 0), 0)
        finally:
            courses.MAX_NODES = kept

    def test_errors(self):
        check_first_error(self, churn_bound, (PAIRS, ("pushl",)), (NO_BOOKS, NO_PLANS))
        check_first_error(self, churning_row, (PAIRS, ("pushl",), 2), (NO_BOOKS, NO_PLANS, NO_NUMBERS))
        check_first_error(self, churning_plans, (PAIRS,), (NO_BOOKS,))

    def test_values_of_every_kind(self):
        for value in odd_values():
            with self.subTest(value=value):
                check_raises(self, InvalidOperation, lambda: churn_bound(PAIRS, value))
                check_raises(self, InvalidOperation, lambda: churning_row(PAIRS, ("popl", value), None))
                if not PAIRS.is_right(value):
                    check_raises(self, InvalidRow, lambda: is_churning(PAIRS, ("popl",), value))
                if type(value) is not int or not 1 <= value <= 100:
                    check_raises(self, InvalidNumber, lambda: churning_row(PAIRS, ("popl",), value), value)
                if not isinstance(value, Book):
                    check_raises(self, InvalidBook, lambda: churning_plans(value))


class Mirrors(unittest.TestCase):
    def test_mirrored_books_and_books_with_other_names(self):
        other = {"pushl": "pushr", "pushr": "pushl", "popl": "popr", "popr": "popl"}
        for book in some_books(65, 3) + [wide(), TRIPLES]:
            states = {state: "x" + state for state in book.reader.states}
            renamed = book.renamed(states, {note: "y" + note for note in book.notes})
            for plan in PLANS[:6]:
                mirrored = tuple(other[deed] for deed in plan)
                for same, kind in ((book.mirrored(), mirrored), (renamed, plan)):
                    self.assertEqual(churn_bound(same, kind), churn_bound(book, plan))
                    for levels in (1, 2, 5):
                        rows = churning_row(book, plan, levels), churning_row(same, kind, levels)
                        self.assertIs(rows[0] is None, rows[1] is None)
                        if rows[0] is not None:
                            self.assertEqual(size(book.arity, rows[0]), size(book.arity, rows[1]))


if __name__ == "__main__":
    unittest.main()
