"""Promise 6.1 and the interface of fingerbooks.read.depth."""

import random
import unittest

from fingerbooks.book.books import Book
from fingerbooks.errors import InvalidBook, InvalidNumber, InvalidOperation, TooMany
from fingerbooks.read import depth, lengths
from fingerbooks.read.depth import deep_row, depth_bound, least_length, missing_length, most_length
from fingerbooks.read.readers import Reader
from tests.books import FORMS, PAIRS, TIGHT, TRIPLES, plain, random_reader, right_rows, size
from tests.checks import check_first_error, check_raises
from tests.values import odd_values

FEWER = PAIRS.without("read o 0.1 e").without("read o 1.0 e").without("read s 3.3 o")
LOOSE = PAIRS.with_line("read s 0.1 o").with_line("read o 0.1 o")
ONLY_EMPTY = plain(Reader("s", ("e",), {("s", (1, 1)): "o", ("o", (1, 1)): "o"}))
RIGHT_ONLY = plain(Reader("s", ("e",), {("s", (0, 1)): "o", ("o", (0, 2)): "o", ("o", (0, 1)): "e"}))
NO_BOOKS = [(value, InvalidBook) for value in (None, PAIRS.reader, PAIRS.lines, 2, "book", PAIRS.machine, [PAIRS])]
NO_SIDES = [
    (value, InvalidOperation) for value in ("", "Left", "up", "left ", None, 0, True, ("left",), ["left"], {"left": 1})
]


def excesses(arity, row, side):
    """The excess of each element at a side, as [6.1] tells."""
    found, nearer = [], 0
    for level, form in enumerate(row):
        for _ in range(form[side] * arity ** level):
            power = 0
            while arity ** (power + 1) <= nearer + 1:
                power += 1
            found.append(level - power)
            nearer += 1
    return found


def chain(forms, arity=2):
    """A book with one right row but the empty one."""
    states = "sabcde"
    reads = {(states[at], form): states[at + 1] for at, form in enumerate(forms)}
    return plain(Reader("s", (states[len(forms)],), reads), arity)


class Interface(unittest.TestCase):
    def test_constants(self):
        self.assertEqual(depth.SIDES, ("left", "right"))

    def test_functions_are_defined_here(self):
        for function in (least_length, most_length, missing_length, depth_bound, deep_row):
            self.assertEqual(function.__module__, "fingerbooks.read.depth")


class LengthsForLevels(unittest.TestCase):
    def test_by_trying(self):
        for seed in range(150):
            rng = random.Random(seed)
            reader = random_reader(rng, "sabc"[:2 + seed % 3], ((0, 0), (0, 1), (7, 7), (2, 0)), 0.6)
            for arity in (2, 3):
                book = plain(reader, arity)
                right = right_rows(reader, 5)
                for levels in range(6):
                    found = [size(arity, row) for row in right if len(row) == levels]
                    self.assertEqual(least_length(book, levels), min(found, default=None))
                    self.assertEqual(most_length(book, levels), max(found, default=None))

    def test_of_the_document(self):
        self.assertEqual([least_length(PAIRS, levels) for levels in range(4)], [0, 1, 4, 10])
        self.assertEqual([most_length(PAIRS, 2), least_length(FEWER, 2)], [18, 6])

    def test_0_to_200_levels(self):
        self.assertEqual([least_length(book, 0) for book in (PAIRS, ONLY_EMPTY, TRIPLES)], [0, 0, 0])
        self.assertEqual([most_length(book, 0) for book in (PAIRS, ONLY_EMPTY, TRIPLES)], [0, 0, 0])
        self.assertEqual(least_length(PAIRS, 200), 2 * (2 ** 199 - 1) + 2 ** 199)
        self.assertEqual(most_length(PAIRS, 200), 6 * (2 ** 200 - 1))
        self.assertEqual(least_length(TRIPLES, 200), 3 ** 199 - 1 + 3 ** 199)
        self.assertEqual(most_length(TRIPLES, 199), 4 * (3 ** 199 - 1))
        self.assertEqual([least_length(ONLY_EMPTY, 200), most_length(ONLY_EMPTY, 1)], [None, None])

    def test_some_numbers_of_levels_only(self):
        every_third = plain(Reader.from_lines(
            "first s", "ends c", "read s 1.0 a", "read a 0.0 b", "read b 0.1 c", "read c 0.0 a",
        ))
        for levels in range(1, 30):
            found = least_length(every_third, levels)
            self.assertEqual(most_length(every_third, levels), found)
            self.assertEqual(found is not None, levels % 3 == 0)

    def test_wrong_values(self):
        no_levels = [
            (value, InvalidNumber) for value in (
                -1, 201, 10 ** 60, -5, True, False, None, "1", (1,), [0], 10 ** 59, PAIRS,
            )
        ]
        for function in (least_length, most_length):
            check_first_error(self, function, (PAIRS, 3), (NO_BOOKS, no_levels))
            for value in odd_values():
                if type(value) is not int or not 0 <= value <= 200:
                    check_raises(self, InvalidNumber, lambda: function(PAIRS, value), value)
                if not isinstance(value, Book):
                    check_raises(self, InvalidBook, lambda: function(value, 3))


class MissingLengths(unittest.TestCase):
    def test_by_trying(self):
        most, none = 0, 0
        for seed in range(400):
            rng = random.Random(seed)
            forms = FORMS[:3] + ((1, 0), (1, 1), (2, 2), (3, 4), (7, 7))
            reader = random_reader(rng, "sabcd"[:2 + seed % 4], forms[seed % 2:], 0.5 + seed % 5 * 0.1)
            levels = 3
            rows = right_rows(reader, levels)
            for arity in (2, 3):
                # Rows with more levels have at least so many elements.
                bound = arity ** levels
                lengths_found = {size(arity, row) for row in rows}
                expected = min((length for length in range(bound) if length not in lengths_found), default=None)
                found = missing_length(plain(reader, arity))
                if expected is not None:
                    self.assertEqual(found, expected)
                    most = max(most, found)
                else:
                    self.assertTrue(found is None or found >= bound)
                    none += found is None
        self.assertGreater(most, 5)
        self.assertGreater(none, 20)

    def test_of_the_document(self):
        self.assertEqual([missing_length(PAIRS), missing_length(TIGHT), missing_length(TRIPLES)], [None, None, None])
        self.assertEqual(missing_length(ONLY_EMPTY), 1)

    def test_one_row_of_each_length(self):
        figures = plain(Reader.from_lines(
            "first s", "ends e", "read s 0.0 a", "read s 0.1 a", "read s 1.0 e", "read a 0.0 a", "read a 0.1 a",
            "read a 1.0 e",
        ))
        self.assertIsNone(missing_length(figures))
        self.assertEqual(missing_length(figures.with_line("arity 3")), 2)
        three = figures.with_line("arity 3").with_line(
            "read s 0.2 a",
        ).with_line("read a 0.2 a").with_line("read s 2.0 e")
        self.assertEqual(missing_length(three), 6)
        self.assertIsNone(missing_length(three.with_line("read a 2.0 e")))

    def test_one_further_in_with_each_level_more(self):
        # Rows of full figures: the first length that needs one level more than there are is missing.
        states = "sabcde"
        for levels in range(1, 6):
            reads = {(states[at], (1, 0)): "z" if levels < 5 else "e" for at in range(levels)}
            for at in range(levels - 1):
                reads[(states[at], (0, 0))] = reads[(states[at], (0, 1))] = states[at + 1]
            book = plain(Reader("s", tuple(sorted(set(reads.values()) - set(states[:5]))), reads))
            self.assertEqual(missing_length(book), 2 ** levels)

    def test_carries(self):
        # Seven and seven at each level, or one: any length needs many carries.
        reads = {("s", (7, 7)): "a", ("s", (7, 6)): "a", ("a", (7, 7)): "a", ("a", (7, 6)): "a"}
        for many in range(1, 14):
            reads[("s", (many // 2, many - many // 2))] = "e"
        reads |= {("a", (left, 0)): "e" for left in range(1, 8)} | {("a", (7, right)): "e" for right in range(1, 6)}
        for arity in (2, 3):
            rows = right_rows(Reader("s", ("e",), reads), 5)
            lengths_found = {size(arity, row) for row in rows}
            expected = min(length for length in range(10 ** 4) if length not in lengths_found)
            found = missing_length(plain(Reader("s", ("e",), reads), arity))
            self.assertTrue(found is None or found >= 2 ** 5 or found == expected)
            if found is not None and found < arity ** 5:
                self.assertEqual(found, expected)

    def test_more_than_20000_sets(self):
        # There is a right row of each length by the state u; the others make many sets with their carries.
        lines = (
            "first s", "ends e", "read s 0.0 u", "read s 0.1 u", "read s 1.0 e", "read u 0.0 u", "read u 0.1 u",
            "read u 1.0 e", "read a 2.3 b", "read a 3.6 e", "read a 7.4 e", "read a 7.7 a", "read b 2.0 b",
            "read b 2.7 e", "read b 3.0 c", "read c 2.3 e", "read c 3.5 a", "read c 3.7 b", "read c 4.7 c",
        )
        self.assertIsNone(missing_length(plain(Reader.from_lines(*lines))))
        many = plain(Reader.from_lines(*lines, "read s 3.2 c"))
        check_raises(self, TooMany, lambda: missing_length(many), 20000)
        # Where a small length is missing, few sets are needed to tell it.
        self.assertEqual(missing_length(many.without("read s 1.0 e")), 1)

    def test_too_many_sets(self):
        kept = lengths.MAX_SETS
        self.assertEqual(kept, 20000)
        try:
            for limit in range(40):
                lengths.MAX_SETS = limit
                try:
                    self.assertIsNone(missing_length(PAIRS))
                except TooMany as error:
                    self.assertEqual(error.limit, limit)
                    needed = limit + 1
            self.assertTrue(2 < needed < 40)
            lengths.MAX_SETS = 1
            check_raises(self, TooMany, lambda: missing_length(PAIRS), 1)
            check_raises(self, InvalidBook, lambda: missing_length(None))
        finally:
            lengths.MAX_SETS = kept

    def test_wrong_values(self):
        for value in odd_values():
            if not isinstance(value, Book):
                check_raises(self, InvalidBook, lambda: missing_length(value))


class Depths(unittest.TestCase):
    def test_by_trying(self):
        unbounded, deeper, deepest = 0, 0, 0
        for seed in range(300):
            rng = random.Random(seed)
            forms = (
                ((0, 1), (1, 0), (0, 0), (2, 0)), ((0, 1), (1, 1), (3, 0)), ((0, 1), (7, 1), (0, 0), (1, 0)),
            )[seed % 3]
            reader = random_reader(rng, "sabcd"[:2 + seed % 4], forms, rng.choice((0.3, 0.5, 0.8)))
            arity, at = rng.choice((2, 3)), rng.randint(0, 1)
            levels = 6
            book, side = plain(reader, arity), ("left", "right")[at]
            least = {}
            for row in right_rows(reader, levels):
                for more in range(max(excesses(arity, row, at)[:5000], default=-1) + 1):
                    least[more] = min(size(arity, row), least.get(more, 10 ** 9))
            for more in range(8):
                row = deep_row(book, side, more)
                if row is None:
                    self.assertNotIn(more, least)
                    continue
                self.assertTrue(book.is_right(row))
                expected = least.get(more, arity ** levels)
                if len(row) <= levels or expected < arity ** levels:
                    self.assertGreaterEqual(max(excesses(arity, row, at)), more)
                    self.assertEqual(size(arity, row), expected)
                else:
                    self.assertGreaterEqual(size(arity, row), arity ** levels)
                deepest = max(deepest, more)
            bound = depth_bound(book, side)
            self.assertIs(deep_row(book, side, 0) is None and bound != 0, False)
            if bound is None:
                unbounded += 1
                self.assertIsNotNone(deep_row(book, side, 100))
            else:
                deeper += bound > 0
                self.assertIsNone(deep_row(book, side, bound + 1))
                if least:
                    self.assertIsNotNone(deep_row(book, side, bound))
        self.assertGreater(unbounded, 40)
        self.assertGreater(deeper, 30)
        self.assertEqual(deepest, 7)

    def test_of_the_document(self):
        self.assertEqual(
            [depth_bound(PAIRS, "left"), deep_row(PAIRS, "left", 0), deep_row(PAIRS, "left", 1)], [0, ((1, 0),), None],
        )
        self.assertEqual([depth_bound(LOOSE, "left"), depth_bound(LOOSE, "right")], [None, 0])
        self.assertEqual(size(2, deep_row(LOOSE, "left", 2)), 7)

    def test_sides_without_elements(self):
        self.assertEqual([depth_bound(RIGHT_ONLY, "left"), depth_bound(RIGHT_ONLY, "right")], [0, 0])
        self.assertEqual([depth_bound(ONLY_EMPTY, side) for side in ("left", "right")], [0, 0])
        for more in (0, 1, 100):
            self.assertEqual([deep_row(RIGHT_ONLY, "left", more), deep_row(ONLY_EMPTY, "right", more)], [None, None])
        self.assertEqual(deep_row(RIGHT_ONLY, "right", 0), ((0, 1), (0, 1)))
        self.assertIsNone(deep_row(RIGHT_ONLY, "right", 1))

    def test_as_deep_as_a_bound_can_be(self):
        for arity in (2, 3):
            book = chain(((0, 1), (0, 1), (0, 1), (0, 1), (1, 0)), arity)
            self.assertEqual([depth_bound(book, "left"), depth_bound(book, "right")], [4, arity - 2])
            book = chain(((0, 0), (0, 0), (0, 0), (0, 0), (1, 0)), arity)
            self.assertEqual([depth_bound(book, "left"), depth_bound(book.mirrored(), "right")], [4, 4])
            # With six states, five of them behind the first one.
            reads = {
                ("s", (0, 1)): "a", ("a", (0, 1)): "b", ("b", (0, 1)): "c", ("c", (0, 1)): "d", ("d", (0, 1)): "e",
                ("e", (1, 1)): "a",
            }
            book = plain(Reader("s", ("a",), reads), arity)
            self.assertEqual([depth_bound(book, "left"), depth_bound(book.mirrored(), "right")], [5, 5])
            row = ((0, 1),) * 5 + ((1, 1),)
            self.assertEqual([deep_row(book, "left", 5), deep_row(book, "left", 6)], [row, None])

    def test_just_at_the_border(self):
        # With one element ahead, and one, the number has two figures for arity 2, and one for arity 3.
        for forms, arity, bound in (
            (((1, 1), (1, 1)), 2, 0), (((1, 1), (1, 1)), 3, 1), (((2, 1), (1, 1)), 3, 0),
            (((0, 1), (1, 0), (1, 0)), 2, 1),
            (((0, 1), (0, 1), (7, 0), (0, 0), (1, 0)), 2, 2), (((0, 1), (0, 1), (1, 0), (0, 0), (1, 0)), 2, 2),
            (((1, 0), (0, 1), (0, 1), (1, 0)), 2, 2), (((2, 0), (0, 1), (0, 1), (1, 0)), 2, 2),
            (((3, 0), (0, 1), (0, 1), (1, 0)), 2, 1), (((1, 0), (1, 0), (0, 1), (1, 0)), 2, 1),
            (((0, 0), (1, 0), (0, 1), (1, 0)), 2, 2), (((1, 0), (0, 1), (0, 1), (1, 0)), 3, 3),
            (((2, 0), (0, 1), (0, 1), (1, 0)), 3, 2), (((7, 0), (0, 1), (0, 1), (1, 0)), 3, 2),
            (((2, 0), (2, 0), (0, 1), (1, 0)), 3, 1), (((1, 0), (2, 0), (0, 1), (1, 0)), 3, 2),
        ):
            with self.subTest(forms=forms, arity=arity):
                self.assertEqual(max(excesses(arity, forms, 0)), bound)
                book = chain(forms, arity)
                self.assertEqual([depth_bound(book, "left"), depth_bound(book.mirrored(), "right")], [bound, bound])
                self.assertEqual([deep_row(book, "left", more) for more in (bound, bound + 1)], [forms, None])

    def test_excesses_0_and_100(self):
        for arity in (2, 3):
            book = plain(
                Reader.from_lines(
                    "first s", "ends e", "read s 0.0 a", "read a 0.0 a", "read a 1.0 e", "read s 1.0 e",
                ), arity,
            )
            self.assertIsNone(depth_bound(book, "left"))
            for more in (0, 1, 2, 50, 99, 100):
                self.assertEqual(deep_row(book, "left", more), ((0, 0),) * more + ((1, 0),))
                self.assertEqual(deep_row(book.mirrored(), "right", more), ((0, 0),) * more + ((0, 1),))

    def test_elements_ahead_where_there_must_be_some(self):
        # The first level has seven elements: three levels more, or two for arity 3, have no elements for any excess.
        for arity, ahead in ((2, 3), (3, 1)):
            book = plain(Reader.from_lines("first s", "ends e", "read s 7.0 a", "read a 0.0 a", "read a 1.0 e"), arity)
            for more in (0, 1, 2, 10, 100):
                expected = ((7, 0),) if more == 0 else ((7, 0),) + ((0, 0),) * (more + ahead - 1) + ((1, 0),)
                found = deep_row(book, "left", more)
                self.assertEqual(found if more else found[:1], expected)
                if more < 11:
                    self.assertEqual(max(excesses(arity, found, 0)[:9]), more)
            self.assertIsNone(depth_bound(book, "left"))

    def test_wrong_values(self):
        no_numbers = [
            (value, InvalidNumber) for value in (-1, 101, True, False, None, "1", (1,), [1], 10 ** 59, 10 ** 60, PAIRS)
        ]
        check_first_error(self, depth_bound, (PAIRS, "left"), (NO_BOOKS, NO_SIDES))
        check_first_error(self, deep_row, (PAIRS, "right", 1), (NO_BOOKS[:4], NO_SIDES[:4], no_numbers))
        for value in odd_values():
            with self.subTest(value=value):
                check_raises(self, InvalidOperation, lambda: depth_bound(PAIRS, value))
                check_raises(self, InvalidOperation, lambda: deep_row(PAIRS, value, 0))
                if type(value) is not int or not 0 <= value <= 100:
                    check_raises(self, InvalidNumber, lambda: deep_row(PAIRS, "left", value), value)
                if not isinstance(value, Book):
                    check_raises(self, InvalidBook, lambda: depth_bound(value, "left"))
                    check_raises(self, InvalidBook, lambda: deep_row(value, "left", 0))


class Calls(unittest.TestCase):
    def test_books_stay(self):
        lines = LOOSE.lines
        for call in (
            lambda: least_length(LOOSE, 5), lambda: most_length(LOOSE, 5), lambda: missing_length(LOOSE),
            lambda: depth_bound(LOOSE, "left"), lambda: deep_row(LOOSE, "right", 0), lambda: deep_row(LOOSE, "left", 3),
        ):
            self.assertEqual(call(), call())
            self.assertEqual(LOOSE.lines, lines)


if __name__ == "__main__":
    unittest.main()
