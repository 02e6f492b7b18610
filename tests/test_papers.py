"""Promises 0.15 to 0.19 and 11.1 and the interface of fingerbooks.decide.papers."""

import itertools
import random
import unittest

from fingerbooks.book.books import DEEDS, Book
from fingerbooks.decide import papers, tables
from fingerbooks.decide.papers import is_good, is_paper, least_bad, paper, row_along, stands_of
from fingerbooks.decide.tables import Table, is_final, moves, start_of
from fingerbooks.errors import EmptySequence, InvalidBook, InvalidOperation, InvalidRow, TooMany
from fingerbooks.read.readers import Reader
from tests.books import LESS, PAIRS, STARTS, TIGHT, TRIPLES, plain, right_rows, size, wide
from tests.checks import check_first_error, check_raises
from tests.trying import EMPTY, FLAT, LOOSE, can_be_done, check_least, deed_done, rows_up_to, some_books, stands_along
from tests.values import odd_values

NO_BOOKS = [(value, InvalidBook) for value in (None, PAIRS.reader, PAIRS.lines, "book", 2)]
NO_DEEDS = [(value, InvalidOperation) for value in ("", "push", "Popl", None, 0, ("popl",), ["popl"])]


def fails(book, deed, row):
    if not can_be_done(row, deed):
        return False
    new = deed_done(book, row, deed)[0]
    return new is None or not book.is_right(new)


def can_go_on(book, stand, memo):
    """Whether a final stand can be reached, by trying; memo keeps what was found for this book."""
    if stand not in memo:
        memo[stand] = _can_go_on(book, stand)
    return memo[stand]


def _can_go_on(book, stand):
    known, waiting = {stand}, [stand]
    for at in waiting:
        if is_final(book, at):
            return True
        # A stand that follows from another one is never the start, so any take tells its moves.
        for _, _, other in moves(book, "popl", at):
            if other not in known:
                known.add(other)
                waiting.append(other)
    return False


def is_good_paper(book, deed, stands, memo):
    """Whether stands are those of a good paper, as [11.1] tells it."""
    held = set(stands)
    if list(stands) != sorted(held) or start_of(book, deed) not in held:
        return False
    for stand in stands:
        if is_final(book, stand) and not stand[4]:
            return False
        for _, _, other in moves(book, deed, stand):
            if other not in held and can_go_on(book, other, memo):
                return False
    return True


class Interface(unittest.TestCase):
    def test_functions_are_defined_here(self):
        for function in (paper, is_paper, is_good, least_bad, stands_of, row_along):
            self.assertEqual(function.__module__, "fingerbooks.decide.papers")


class Bad(unittest.TestCase):
    def test_least_failing_rows_are_those_of_all_right_rows(self):
        kinds = {True: 0, False: 0}
        for book in some_books(31):
            rows = rows_up_to(book, 14)
            for deed in DEEDS:
                found = least_bad(book, deed)
                check_least(self, book, found, lambda row: fails(book, deed, row), rows)
                self.assertIs(is_good(book, deed), found is None)
                kinds[found is None] += 1
        self.assertGreater(min(kinds.values()), 20)

    def test_there_is_one_with_at_most_as_many_levels_as_stands(self):
        for book in some_books(32):
            for deed in DEEDS:
                found, table = least_bad(book, deed), Table(book, deed)
                self.assertIs(found is None, table.is_good)
                if found is not None:
                    self.assertLessEqual(len(found), len(table))

    def test_of_the_document(self):
        self.assertEqual(
            [is_good(PAIRS, "popl"), least_bad(LESS, "popl"), paper(LESS, "popl"), least_bad(LESS, "popr")],
            [True, ((0, 1),), ("bad", ((0, 1),)), None],
        )

    def test_edges(self):
        # A put fails in the empty row, if no row with one element is right.
        self.assertEqual([least_bad(EMPTY, deed) for deed in DEEDS], [(), (), None, None])
        self.assertEqual([paper(EMPTY, deed)[0] for deed in DEEDS], ["bad", "bad", "good", "good"])
        self.assertEqual(paper(EMPTY, "popl"), ("good", (start_of(EMPTY, "popl"),)))
        # A book without pages: puts come to 2.1, which is not right, and takes to a number below 0.
        self.assertEqual([size(2, least_bad(FLAT, deed)) for deed in DEEDS], [1, 1, 1, 1])
        self.assertEqual(least_bad(LOOSE, "pushl"), None)
        self.assertEqual(size(2, least_bad(LOOSE, "popl")), 5)

    def test_a_row_far_in(self):
        # Only in a row with six levels does a deed come to a level where it breaks.
        reads = {}
        for at in range(5):
            reads[("abcde"[at], (7, 1))] = "bcdef"[at]
        reads[("e", (0, 1))] = "f"
        pages = [f"page {'mnopq'[at]} inner 8.1 to 6.1 pass 1.0 then {'nopqr'[at]}" for at in range(5)]
        reader = Reader("a", ("f",), reads)
        book = Book.from_lines("arity 2", *reader.lines, *[f"start {deed} m" for deed in DEEDS], *pages)
        row = least_bad(book, "popl")
        self.assertTrue(fails(book, "popl", row))
        self.assertEqual(row, ((7, 1),) * 4 + ((0, 1),))


class Papers(unittest.TestCase):
    def test_papers_are_papers(self):
        for book in some_books(33):
            for deed in DEEDS:
                found = paper(book, deed)
                self.assertIs(is_paper(book, deed, found), True)
                self.assertEqual(found[0], "good" if is_good(book, deed) else "bad")
                if found[0] == "good":
                    self.assertTrue(is_good_paper(book, deed, found[1], {}))
                else:
                    self.assertTrue(fails(book, deed, found[1]))

    def test_of_exactly_one_form(self):
        for book in some_books(34, 4):
            rows = rows_up_to(book, 10, 200)
            for deed in DEEDS:
                table = Table(book, deed)
                for row in rows:
                    self.assertIs(is_paper(book, deed, ("bad", row)), fails(book, deed, row))
                    self.assertFalse(table.is_good and is_paper(book, deed, ("bad", row)))
                self.assertIs(is_paper(book, deed, ("good", table.stands)), table.is_good)

    def test_every_good_paper_is_one(self):
        # Papers may have more stands than the table, as long as all that follow are there, too.
        rng = random.Random(35)
        counts = {True: 0, False: 0}
        for book in (PAIRS, TIGHT, TRIPLES, LESS, LOOSE, FLAT, wide()):
            states = book.reader.states + ("",)
            notes = book.notes
            memo = {}
            for deed, _ in itertools.product(DEEDS, range(25)):
                stands = set(Table(book, deed).stands)
                for _ in range(rng.randint(0, 3)):
                    stands.add((
                        rng.choice(states), (rng.randint(-2, 2), rng.randint(-2, 2)), rng.choice(notes),
                        rng.choice(states), rng.random() < 0.7,
                    ))
                for _ in range(rng.choice((0, 0, 40))):
                    stands |= {
                        move[2] for stand in list(stands) for move in moves(book, deed, stand)
                        if can_go_on(book, move[2], memo)
                    }
                if rng.random() < 0.2:
                    stands.discard(rng.choice(sorted(stands)))
                value = tuple(sorted(stands))
                expected = is_good_paper(book, deed, value, memo)
                self.assertIs(is_paper(book, deed, ("good", value)), expected)
                counts[expected] += 1
        self.assertGreater(min(counts.values()), 80)

    def test_a_stand_more_that_leads_nowhere(self):
        stands = Table(PAIRS, "pushl").stands
        more = tuple(sorted(stands + (("e", (0, 0), "m", "o", False),)))
        self.assertIs(is_paper(PAIRS, "pushl", ("good", more)), True)
        more = tuple(sorted(stands + (("", (0, 0), "m", "o", False),)))
        self.assertIs(is_paper(PAIRS, "pushl", ("good", more)), False)
        more = tuple(sorted(stands + (("", (0, 0), "m", "s", True),)))
        self.assertIs(is_paper(PAIRS, "pushl", ("good", more)), True)

    def test_near_a_good_one(self):
        stands = Table(PAIRS, "popl").stands
        near = [stands[:at] + stands[at + 1:] for at in range(len(stands))]
        near += [stands[::-1], stands + stands[-1:], stands[:1] + stands, list(stands), (), stands + (None,)]
        for at, stand in enumerate(stands):
            ahead, behind = stands[:at], stands[at + 1:]
            near += [ahead + (stand[:4] + (int(stand[4]),),) + behind, ahead + (list(stand),) + behind]
            near += [ahead + (stand[:4],) + behind, ahead + (stand[:2] + ("n",) + stand[3:],) + behind]
            near += [ahead + ((stand[0], (bool(stand[1][0]), stand[1][1])) + stand[2:],) + behind]
        for value in near:
            with self.subTest(value=value):
                self.assertIs(is_paper(PAIRS, "popl", ("good", value)), False)
        good = ("good", stands)
        for value in (
            list(good), good + (1,), good[:1], ("Good", stands), ("bad", stands), ("good", ("good", stands)), stands,
        ):
            self.assertIs(is_paper(PAIRS, "popl", value), False)
        self.assertIs(is_paper(PAIRS, "pushl", good), False)
        self.assertIs(is_paper(LESS, "popl", good), False)

    def test_near_a_bad_one(self):
        self.assertIs(is_paper(LESS, "popl", ("bad", ((0, 1),))), True)
        self.assertIs(is_paper(LESS, "popl", ("bad", ((1, 1), (0, 1)))), True)
        for value in (
            ((1, 0),), (), ((0, 0),), ((0, 1), (0, 0)), [(0, 1)], ((0, True),), ((False, 1),), ([0, 1],), "0.1", None,
            ((0, 1), (0, 1)), ((4, 1),), ((1, 1),) * 200 + ((0, 1),),
        ):
            with self.subTest(value=value):
                self.assertIs(is_paper(LESS, "popl", ("bad", value)), False)
                self.assertIs(is_paper(LESS, "popl", ("good", value)), False)
        self.assertIs(is_paper(LESS, "popl", ("bad", ((1, 1),) * 199 + ((0, 1),))), True)
        # A take cannot be done in the empty row, so it does not fail there.
        self.assertIs(is_paper(EMPTY, "popl", ("bad", ())), False)
        self.assertIs(is_paper(EMPTY, "pushl", ("bad", ())), True)

    def test_values_of_every_kind(self):
        for value in odd_values():
            with self.subTest(value=value):
                for shown in (value, ("good", value), ("bad", value), (value, ((0, 1),)), ("good", (value,))):
                    self.assertIs(is_paper(PAIRS, "popl", shown), False)
                check_raises(self, InvalidOperation, lambda: paper(PAIRS, value))
                check_raises(self, InvalidOperation, lambda: is_paper(PAIRS, value, None))
                check_raises(self, InvalidOperation, lambda: row_along(PAIRS, "popl", value))
                check_raises(self, InvalidOperation, lambda: row_along(PAIRS, "popl", (value,)))

    def test_errors(self):
        for function in (paper, is_good, least_bad):
            check_first_error(self, function, (PAIRS, "popl"), (NO_BOOKS, NO_DEEDS))
        check_first_error(self, is_paper, (PAIRS, "popl", None), (NO_BOOKS, NO_DEEDS, []))

    def test_too_many_stands(self):
        kept = tables.MAX_TABLE
        good = paper(PAIRS, "popl")
        try:
            tables.MAX_TABLE = 3
            for function in (paper, is_good, least_bad):
                check_raises(self, TooMany, lambda: function(PAIRS, "popl"), 3)
                check_raises(self, InvalidOperation, lambda: function(PAIRS, "pop"))
            # This one never raises it.
            self.assertIs(is_paper(PAIRS, "popl", good), True)
            self.assertIs(is_paper(LESS, "popl", ("bad", ((0, 1),))), True)
        finally:
            tables.MAX_TABLE = kept


class Stands(unittest.TestCase):
    def test_by_hand(self):
        broken = 0
        for book in some_books(36):
            for row, deed in itertools.product(right_rows(book.reader, 3)[:60], DEEDS):
                if can_be_done(row, deed):
                    found = stands_of(book, row, deed)
                    self.assertEqual(found, tuple(stands_along(book, row, deed)))
                    self.assertIs(is_final(book, found[-1]), True)
                    broken += found[-1][2] == ""
        self.assertGreater(broken, 500)

    def test_of_the_document(self):
        self.assertEqual(
            stands_of(PAIRS, ((1, 0),), "popl"), (("s", (-1, 0), "m", "s", True), ("", (0, 0), "m", "", True)),
        )

    def test_errors(self):
        no_rows = [(value, InvalidRow) for value in (((0, 0),), ((4, 1),), [(1, 1)], None, "1.1", ((1, 1),) * 201)]
        check_first_error(self, stands_of, (PAIRS, ((1, 1),), "popl"), (NO_BOOKS, no_rows, NO_DEEDS))
        for deed in ("popl", "popr"):
            check_raises(self, EmptySequence, lambda: stands_of(PAIRS, (), deed), deed)
        check_raises(self, InvalidOperation, lambda: stands_of(PAIRS, (), "pop"))


class Rows(unittest.TestCase):
    def test_there_and_back(self):
        for book in some_books(37):
            for row, deed in itertools.product(right_rows(book.reader, 3)[:60], DEEDS):
                if can_be_done(row, deed):
                    stands = stands_of(book, row, deed)
                    found = row_along(book, deed, stands)
                    self.assertTrue(book.is_right(found))
                    self.assertEqual(stands_of(book, found, deed), stands)

    def test_of_the_document(self):
        stands = stands_of(PAIRS, ((1, 0),), "popl")
        self.assertIn(row_along(PAIRS, "popl", stands), (((0, 1),), ((1, 0),)))
        self.assertIn(row_along(PAIRS, "pushl", stands_of(PAIRS, (), "pushl")), ((), ((0, 1),), ((1, 0),)))

    def test_of_400_stands_and_of_401(self):
        start, inner = start_of(PAIRS, "popl"), ("o", (0, 0), "m", "o", True)
        for many in (397, 398):
            stands = (start,) + (inner,) * many + (("", (0, 0), "m", "e", True),)
            if many == 398:
                row = row_along(PAIRS, "popl", stands)
                self.assertEqual(len(row), 399)
                self.assertTrue(0 in row[-1] and all(min(form) > 0 for form in row[:-1]))
            else:
                self.assertEqual(len(row_along(PAIRS, "popl", stands)), 398)
        longer = (start,) + (inner,) * 399 + (("", (0, 0), "m", "e", True),)
        self.assertEqual(len(longer), 401)
        check_raises(self, InvalidOperation, lambda: row_along(PAIRS, "popl", longer))

    def test_no_stands(self):
        stands = stands_of(PAIRS, ((1, 1), (2, 1), (0, 1)), "popl")
        self.assertEqual(len(stands), 4)
        for value in (
            (), stands[:1], stands[1:], stands[:2], stands[:3], list(stands), stands + stands[-1:], stands[::-1],
            stands[:2] * 2 + stands[2:], None, "s", stands[:1] + (None,) + stands[2:],
            stands_of(PAIRS, ((1, 1), (2, 1), (0, 1)), "popr"), (("s", (-1, 0), "m", "s", 1),) + stands[1:],
            stands[:-1] + (("", (0, 0), "m", "", False),),
        ):
            with self.subTest(value=value):
                check_raises(self, InvalidOperation, lambda: row_along(PAIRS, "popl", value))
        check_raises(self, InvalidOperation, lambda: row_along(PAIRS, "popr", stands))

    def test_errors(self):
        no_stands = [(value, InvalidOperation) for value in (None, (), (1,))]
        stands = stands_of(PAIRS, ((1, 1),), "popl")
        check_first_error(self, row_along, (PAIRS, "popl", stands), (NO_BOOKS, NO_DEEDS, no_stands))


class Mirrors(unittest.TestCase):
    def test_mirrored_books_and_books_with_other_names(self):
        other = {"pushl": "pushr", "pushr": "pushl", "popl": "popr", "popr": "popl"}
        for book in some_books(38):
            mirrored = book.mirrored()
            states = {state: "x" + state for state in book.reader.states}
            renamed = book.renamed(states, {note: "y" + note for note in book.notes})
            for deed in DEEDS:
                found = least_bad(book, deed)
                for same, kind in ((mirrored, other[deed]), (renamed, deed)):
                    row = least_bad(same, kind)
                    self.assertIs(found is None, row is None)
                    self.assertIs(is_good(same, kind), is_good(book, deed))
                    if row is not None:
                        self.assertEqual(size(book.arity, row), size(book.arity, found))
                        self.assertIs(is_paper(same, kind, ("bad", row)), True)

    def test_equal_calls(self):
        book = Book(PAIRS.reader, PAIRS.machine, STARTS)
        for deed in DEEDS:
            self.assertEqual(paper(book, deed), paper(PAIRS, deed))


if __name__ == "__main__":
    unittest.main()
