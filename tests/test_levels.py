"""Promises 0.16 and 12.1 and the interface of fingerbooks.decide.levels."""

import itertools
import unittest

from fingerbooks.base.forms import length_of
from fingerbooks.book.books import DEEDS, Book
from fingerbooks.decide import tables
from fingerbooks.decide.levels import busy_row, least_length_for, most_reached, most_touched
from fingerbooks.errors import InvalidBook, InvalidNumber, InvalidOperation, TooMany
from tests.books import LESS, PAIRS, TIGHT, TRIPLES, size, wide
from tests.checks import check_first_error, check_raises
from tests.trying import EMPTY, FLAT, can_be_done, check_least, deed_done, rows_up_to, some_books
from tests.values import odd_values

NO_BOOKS = [(value, InvalidBook) for value in (None, PAIRS.reader, PAIRS.lines, "book", 2)]
NO_DEEDS = [(value, InvalidOperation) for value in ("", "push", "Popl", None, 0, ("popl",), ["popl"])]
NO_NUMBERS = [(value, InvalidNumber) for value in (-1, 101, True, None, "1", (1,), 10 ** 99)]
ALL = (most_touched, most_reached, least_length_for, busy_row)


def touches(book, deed, row):
    """How many levels a deed touches in a row, -1 if it cannot be done there."""
    return len(deed_done(book, row, deed)[1]) if can_be_done(row, deed) else -1


class Interface(unittest.TestCase):
    def test_functions_are_defined_here(self):
        for function in ALL:
            self.assertEqual(function.__module__, "fingerbooks.decide.levels")


class Greatest(unittest.TestCase):
    def test_compared_with_many_rows(self):
        kinds = {"none": 0, "same": 0, "more": 0}
        for book in some_books(41):
            rows = rows_up_to(book, 14)
            for deed in DEEDS:
                done = [deed_done(book, row, deed)[1] for row in rows if can_be_done(row, deed)]
                for function, greatest in (
                    (most_touched, max(map(len, done), default=0)),
                    (most_reached, max([0] + [t[-1] + 1 for t in done])),
                ):
                    found = function(book, deed)
                    self.assertTrue(found is None or (type(found) is int and found >= greatest))
                    kinds["none" if found is None else "same" if found == greatest else "more"] += 1
        self.assertGreater(kinds["none"], 100)
        self.assertGreater(kinds["same"], 50)

    def test_there_is_a_row_in_which_so_many_are_touched_and_none_with_more(self):
        for book in some_books(42):
            for deed in DEEDS:
                most, reached = most_touched(book, deed), most_reached(book, deed)
                if most is None:
                    row = busy_row(book, deed, 30)
                    self.assertGreaterEqual(touches(book, deed, row), 30)
                    self.assertIsNone(reached)
                    continue
                self.assertTrue(reached is None or reached >= most)
                self.assertIsNone(busy_row(book, deed, most + 1))
                if most > 0:
                    self.assertEqual(touches(book, deed, busy_row(book, deed, most)), most)

    def test_of_the_document(self):
        self.assertEqual([most_touched(PAIRS, "pushl"), most_reached(TIGHT, "popr")], [None, None])
        self.assertEqual(most_touched(FLAT, "pushl"), 1)

    def test_deeds_that_can_be_done_in_no_right_row(self):
        for deed in ("popl", "popr"):
            self.assertEqual([function(EMPTY, deed) for function in ALL[:2]], [0, 0])
            self.assertEqual([function(EMPTY, deed, 0) for function in ALL[2:]], [None, None])
        for deed in ("pushl", "pushr"):
            self.assertEqual([function(EMPTY, deed) for function in ALL[:2]], [1, 1])
            self.assertEqual([least_length_for(EMPTY, deed, many) for many in range(3)], [0, 0, None])

    def test_reaching_further_than_touching(self):
        # Level 1 is passed by, as nothing comes to it and its form stays, and level 2 is changed by a note.
        book = Book.from_lines(
            "arity 2", "first s", "ends d", "read s 1.1 a", "read a 1.1 c", "read c 1.2 d", "start pushl m",
            "start pushr m", "start popl m", "start popr m", "page m inner 2.1 to 2.1 pass 0.0 then n",
            "page n inner 1.1 to 1.1 pass 0.0 then k", "page k last 1.2 to 2.1 pass 0.0 then k",
        )
        self.assertEqual([most_touched(book, "pushl"), most_reached(book, "pushl")], [2, 3])
        self.assertEqual(busy_row(book, "pushl", 2), ((1, 1), (1, 1), (1, 2)))
        # The page is not met by a put at the right, and this touches level 0 alone.
        self.assertEqual([most_touched(book, "pushr"), most_reached(book, "pushr")], [1, 1])
        loop = book.with_line("read c 1.1 c").with_line("page k inner 1.1 to 1.1 pass 0.0 then k")
        self.assertEqual([most_touched(loop, "pushl"), most_reached(loop, "pushl")], [2, None])

    def test_a_level_at_which_it_breaks(self):
        # A take in LESS breaks at the last level if this has an element at the right alone.
        self.assertEqual(deed_done(LESS, ((1, 1), (0, 1)), "popl"), (None, [0, 1]))
        self.assertEqual(least_length_for(LESS, "popl", 2), 4)
        broken = Book.from_lines(
            "arity 2", "first s", "ends e", "read s 1.1 o", "read o 0.1 e", "start pushl m", "start pushr m",
            "start popl m", "start popr m", "page m inner 0.1 to 2.1 pass -1.0 then m",
        )
        self.assertEqual([most_touched(broken, "popl"), most_reached(broken, "popl")], [2, 2])
        self.assertEqual([least_length_for(broken, "popl", many) for many in range(4)], [4, 4, 4, None])
        self.assertEqual(most_touched(broken, "popr"), 1)


class Least(unittest.TestCase):
    def test_compared_with_all_rows_up_to_some_elements(self):
        kinds = {True: 0, False: 0}
        for book in some_books(43):
            rows = rows_up_to(book, 14)
            for deed, many in itertools.product(DEEDS, (0, 1, 2, 3, 4)):
                found = busy_row(book, deed, many)
                check_least(self, book, found, lambda row: touches(book, deed, row) >= many, rows)
                expected = None if found is None else size(book.arity, found)
                self.assertEqual(least_length_for(book, deed, many), expected)
                kinds[found is None] += 1
        self.assertGreater(min(kinds.values()), 80)

    def test_of_the_document(self):
        self.assertEqual([least_length_for(PAIRS, "pushl", many) for many in range(4)], [0, 0, 4, 12])
        self.assertEqual([busy_row(FLAT, "pushl", 1), busy_row(FLAT, "popl", 2)], [(), None])
        self.assertEqual(length_of(2, busy_row(PAIRS, "popl", 2)), 4)

    def test_of_100_levels(self):
        for book, deed in ((PAIRS, "pushl"), (TIGHT, "popr"), (TRIPLES, "popl"), (wide(), "popl")):
            row = busy_row(book, deed, 100)
            self.assertTrue(book.is_right(row))
            self.assertGreaterEqual(touches(book, deed, row), 100)
            self.assertEqual(least_length_for(book, deed, 100), size(book.arity, row))
            self.assertLess(least_length_for(book, deed, 99), size(book.arity, row))
        self.assertEqual(least_length_for(TIGHT, "pushl", 100), 3 * (2 ** 99 - 1))

    def test_errors(self):
        for function in ALL[:2]:
            check_first_error(self, function, (PAIRS, "popl"), (NO_BOOKS, NO_DEEDS))
        for function in ALL[2:]:
            check_first_error(self, function, (PAIRS, "popl", 1), (NO_BOOKS, NO_DEEDS, NO_NUMBERS))

    def test_values_of_every_kind(self):
        for value in odd_values():
            with self.subTest(value=value):
                for function in ALL[2:]:
                    check_raises(self, InvalidOperation, lambda: function(PAIRS, value, None))
                    if type(value) is not int or not 0 <= value <= 100:
                        check_raises(self, InvalidNumber, lambda: function(PAIRS, "popl", value), value)

    def test_too_many_stands(self):
        kept = tables.MAX_TABLE
        try:
            tables.MAX_TABLE = 3
            for function in ALL[:2]:
                check_raises(self, TooMany, lambda: function(PAIRS, "popl"), 3)
            for function in ALL[2:]:
                check_raises(self, TooMany, lambda: function(PAIRS, "popl", 2), 3)
                check_raises(self, InvalidNumber, lambda: function(PAIRS, "popl", 101), 101)
        finally:
            tables.MAX_TABLE = kept


class Mirrors(unittest.TestCase):
    def test_mirrored_books_and_books_with_other_names(self):
        other = {"pushl": "pushr", "pushr": "pushl", "popl": "popr", "popr": "popl"}
        for book in some_books(44, 5):
            states = {state: "x" + state for state in book.reader.states}
            renamed = book.renamed(states, {note: "y" + note for note in book.notes})
            for deed in DEEDS:
                for same, kind in ((book.mirrored(), other[deed]), (renamed, deed)):
                    for function in ALL[:2]:
                        self.assertEqual(function(same, kind), function(book, deed))
                    for many in (0, 1, 2, 5):
                        self.assertEqual(least_length_for(same, kind, many), least_length_for(book, deed, many))


if __name__ == "__main__":
    unittest.main()
