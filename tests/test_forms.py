"""Promises 0.7, 0.8, 2.1 and the interface of fingerbooks.base.forms."""

import copy
import unittest

from fingerbooks.base import forms
from fingerbooks.base.forms import (
    check_arity, is_form, is_pair, is_row, length_of, levels_for, mirrored_row, read_pair, read_row, sides_of, trimmed,
    write_pair, write_row,
)
from fingerbooks.errors import InvalidForm, InvalidNumber, InvalidRow, ParseError
from tests.values import odd_values

GREAT = 10 ** 60 - 1
NO_ARITIES = (
    0, 1, 4, 5, -2, -3, 20, GREAT, 10 ** 60, 10 ** 99, True, False, None, "2", "", "two", (2,), [2], {2: 2}, (), [], {},
)
ROWS = (
    (), ((1, 0),), ((0, 1),), ((7, 7),), ((2, 3), (1, 0)), ((0, 0), (0, 7)), ((0, 0), (0, 0), (1, 1)),
    ((1, 2), (0, 0), (3, 4), (0, 0), (5, 6)), ((7, 7),) * 200, ((0, 0),) * 199 + ((0, 1),), ((1, 0),) * 199,
)
NO_ROWS = (
    ((0, 0),), ((1, 0), (0, 0)), ((0, 0), (0, 0)), ((7, 7),) * 201, ((1, 1),) * 300, ((0, 0),) * 200,
    ((1, 1),) * 199 + ((0, 0),), ((8, 0),), ((0, 8),), ((-1, 0),), ((0, -1),), ((1, 1), (8, 1)), ((1, -1), (1, 1)),
    ((1,),), ((1, 2, 3),), ((),), (1, 2), (1,), ((True, 1),), ((1, False),), ((1, None),), ((1, "1"),), ([1, 1],),
    [(1, 1)], [], {}, {(1, 1): 1}, None, True, 0, "-", "1.1", "", (((1, 1),),), ((1, 1), None), ((10 ** 60, 0),),
)


def is_int(value):
    return type(value) is int


def is_short_int(value):
    return is_int(value) and len(str(abs(value))) <= 60


def looks_like_pair(value):
    return type(value) is tuple and [is_short_int(number) for number in value] == [True, True]


def looks_like_row(value):
    if type(value) is not tuple or len(value) > 200:
        return False
    for form in value:
        if not looks_like_pair(form) or not set(form) <= set(range(8)):
            return False
    return value[-1:] != ((0, 0),)


class Interface(unittest.TestCase):
    def test_constants(self):
        self.assertEqual((forms.MAX_SIDE, forms.MAX_LEVELS), (7, 200))

    def test_functions_are_defined_here(self):
        for function in (
            is_pair, is_form, is_row, write_pair, read_pair, write_row, read_row, trimmed, mirrored_row, length_of,
            sides_of, levels_for,
        ):
            self.assertEqual(function.__module__, "fingerbooks.base.forms")


class Judging(unittest.TestCase):
    def test_pairs(self):
        for value in ((0, 0), (1, -1), (-1, 3), (8, 100), (GREAT, -GREAT), (10 ** 58, 10 ** 59)):
            self.assertIs(is_pair(value), True)
        for value in (
            (GREAT + 1, 0), (0, GREAT + 1), (-GREAT - 1, 0), (0, 10 ** 99), (1,), (1, 2, 3), (), [1, 2], (True, 1),
            (1, False), (1, None), ("1", "2"), "1.2", "12", {1: 2, 3: 4}, {1, 2}, ((1, 2),), ((1, 2), (3, 4)), None, 1,
        ):
            with self.subTest(value=value):
                self.assertIs(is_pair(value), False)

    def test_forms(self):
        for left in range(-3, 12):
            for right in range(-3, 12):
                expected = 0 <= left <= 7 and 0 <= right <= 7
                self.assertIs(is_form((left, right)), expected)
        for value in ((True, 1), (1, True), (0, False), [1, 1], (1,), (1, 1, 1), (GREAT, 0), (0, -GREAT), "1.1", None):
            with self.subTest(value=value):
                self.assertIs(is_form(value), False)

    def test_rows(self):
        for value in ROWS:
            self.assertIs(is_row(value), True)
        for value in NO_ROWS:
            with self.subTest(value=value):
                self.assertIs(is_row(value), False)

    def test_one_wrong_form_anywhere(self):
        for at in range(200):
            for wrong in ((8, 0), (0, -1), (True, 0), (1,), None):
                self.assertIs(is_row(((1, 1),) * at + (wrong,) + ((1, 1),) * (199 - at)), False)
            expected = at != 199
            self.assertIs(is_row(((1, 1),) * at + ((0, 0),) + ((1, 1),) * (199 - at)), expected)

    def test_values_of_every_kind_are_judged(self):
        for value in odd_values():
            with self.subTest(value=value):
                pair = looks_like_pair(value)
                self.assertIs(is_pair(value), pair)
                self.assertIs(is_form(value), pair and 0 <= min(value) and max(value) <= 7)
                self.assertIs(is_row(value), looks_like_row(value))
                self.assertIs(is_row((value,)), looks_like_row((value,)))
                self.assertIs(is_pair((value, 1)), is_short_int(value))
                self.assertIs(is_form((1, value)), is_short_int(value) and 0 <= value <= 7)


class TextsOfPairs(unittest.TestCase):
    def test_there_and_back(self):
        numbers = (0, 1, -1, 7, 8, -9, 10, 100, -100, 10 ** 58, 10 ** 59 - 1, 1 - 10 ** 59, 10 ** 59, GREAT, -GREAT)
        for left in numbers:
            for right in numbers:
                text = str(left) + "." + str(right)
                self.assertEqual(write_pair((left, right)), text)
                self.assertEqual(read_pair(text), (left, right))

    def test_read_numbers_are_integers(self):
        self.assertEqual([type(number) for number in read_pair("0.1")], [int, int])

    def test_like_the_document(self):
        self.assertEqual([write_pair((2, 0)), write_pair((-1, 3))], ["2.0", "-1.3"])

    def test_no_pairs(self):
        for value in (
            (GREAT + 1, 0), (0, -GREAT - 1), (10 ** 99, 1), (True, 0), (0, False), (1,), (1, 2, 3), (), [1, 2], "1.2",
            None, 1, ("1", "2"), (1, None), {1: 2, 3: 4}, ((1, 2),),
        ):
            with self.subTest(value=value):
                with self.assertRaises(InvalidForm):
                    write_pair(value)

    def test_no_texts(self):
        for text in (
            "", ".", "1", "1.", ".1", "1.2.3", "1..2", "1.2.", ".1.2", "-", "-.-", "-1.-", "-.1", "-0.1", "1.-0",
            "-0.-0",
            "01.2", "1.02", "00.1", "1.00", "-01.2", "1.-02", "+1.2", "1.+2", "--1.2", "1.--2", "1-.2", "1.2-", " 1.2",
            "1.2 ", "1. 2", "1 .2", "1 2", "1,2", "1:2", "1.2\n", "\n1.2", "1\n.2", "1.2\t", "1_0.2", "a.b", "1.b",
            "0x1.2",
            "1e1.2", "True.1", "(1, 2)", "1.2 3.4", "\u0661.2", "1.\u00b2", "1" * 61 + ".0", "0.1" + "0" * 60,
            "-1" + "0" * 60 + ".1", "0" * 60 + ".1", "1" * 4000, "." * 4000,
        ):
            with self.subTest(text=text):
                self.assert_no_text(text)

    def test_values_of_every_kind(self):
        for value in odd_values():
            with self.subTest(value=value):
                if looks_like_pair(value):
                    self.assertEqual(read_pair(write_pair(value)), value)
                else:
                    with self.assertRaises(InvalidForm):
                        write_pair(value)
                if value != "1.2" or not isinstance(value, str):
                    self.assert_no_text(value)

    def assert_no_text(self, value):
        with self.assertRaises(ParseError) as caught:
            read_pair(value)
        self.assertIsNone(caught.exception.number)


class TextsOfRows(unittest.TestCase):
    def test_like_the_document(self):
        for row, text in (
            ((), "-"), ((((1, 0)),), "1.0"), (((2, 3), (1, 0)), "2.3 1.0"), (((0, 0), (0, 0), (7, 7)), "0.0 0.0 7.7"),
        ):
            self.assertEqual(write_row(row), text)
            self.assertEqual(read_row(text), row)

    def test_there_and_back(self):
        for row in ROWS:
            self.assertEqual(read_row(write_row(row)), row)

    def test_no_rows(self):
        for value in NO_ROWS:
            with self.subTest(value=value):
                with self.assertRaises(InvalidRow):
                    write_row(value)

    def test_200_levels_at_most(self):
        self.assertEqual(read_row(" ".join(["1.2"] * 200)), ((1, 2),) * 200)
        self.assert_no_text(" ".join(["1.2"] * 201))
        self.assert_no_text(" ".join(["0.0"] * 200 + ["1.2"]))

    def test_no_texts(self):
        for text in (
            "", " ", "--", "- ", " -", "- -", "-\n", "1.0 -", "- 1.0", "0.0", "1.0 0.0", "0.0 0.0", "1.0 ", " 1.0",
            "1.0  1.0",
            "1.0   1.0", "1.0\n1.0", "1.0\n", "\n1.0", "1.0\t1.0", "1.0 1.0 ", "1.0,1.0", "1.0, 1.0", "8.0", "0.8",
            "1.0 8.1",
            "-1.0", "0.-1", "1.0 -1.1", "-0.1", "1.-0", "01.0", "1.00", "10.0", "1 0", "1.", ".1", "1", "1.2.3",
            "1.0.1.0",
            "+1.0", "1.0 +1.0", "a.b", "1.0 a.b", "1.0 1", "()", "((1, 0),)", "\u0661.2", "1.2\u00a01.2",
            "1" * 61 + ".0",
            "1.1 " * 1000, "1.1 " * 999 + "1.1", "." * 4000,
        ):
            with self.subTest(text=text):
                self.assert_no_text(text)

    def test_values_of_every_kind(self):
        for value in odd_values():
            with self.subTest(value=value):
                if looks_like_row(value):
                    self.assertEqual(read_row(write_row(value)), value)
                else:
                    with self.assertRaises(InvalidRow):
                        write_row(value)
                if not isinstance(value, str) or value not in ("-", "1.2", "1.2 3.4"):
                    self.assert_no_text(value)

    def assert_no_text(self, value):
        with self.assertRaises(ParseError) as caught:
            read_row(value)
        self.assertIsNone(caught.exception.number)


class Trimming(unittest.TestCase):
    def test_rows_stay(self):
        for row in ROWS:
            self.assertEqual(trimmed(row), row)

    def test_empty_inner_levels_go(self):
        for row in ROWS:
            for more in (1, 2, 3, 50):
                if len(row) + more <= 200:
                    self.assertEqual(trimmed(row + ((0, 0),) * more), row)
        self.assertEqual(trimmed(((0, 0),) * 200), ())
        self.assertEqual(trimmed(((1, 0),) + ((0, 0),) * 199), ((1, 0),))
        self.assertEqual(trimmed(((0, 0), (0, 1), (0, 0))), ((0, 0), (0, 1)))

    def test_no_tuples_of_forms(self):
        for value in NO_ROWS:
            if value in (((0, 0),), ((1, 0), (0, 0)), ((0, 0), (0, 0)), ((0, 0),) * 200, ((1, 1),) * 199 + ((0, 0),)):
                continue
            with self.subTest(value=value):
                with self.assertRaises(InvalidRow):
                    trimmed(value)
        for value in (((0, 0),) * 201, ((1, 0),) + ((0, 0),) * 200, ((0, 0), (8, 0), (0, 0)), ((1, 1), (0, False))):
            with self.subTest(value=value):
                with self.assertRaises(InvalidRow):
                    trimmed(value)

    def test_values_of_every_kind(self):
        for value in odd_values():
            if value == ((1, 2), (0, 0)):
                self.assertEqual(trimmed(value), ((1, 2),))
            elif looks_like_row(value):
                self.assertEqual(trimmed(value), value)
            else:
                with self.subTest(value=value):
                    with self.assertRaises(InvalidRow):
                        trimmed(value)


class Mirroring(unittest.TestCase):
    def test_numbers_are_exchanged_and_levels_stay(self):
        self.assertEqual(mirrored_row(((1, 0), (2, 5))), ((0, 1), (5, 2)))
        self.assertEqual(mirrored_row(()), ())
        for row in ROWS:
            mirrored = mirrored_row(row)
            self.assertEqual(len(mirrored), len(row))
            for at, form in enumerate(row):
                self.assertEqual(mirrored[at], (form[1], form[0]))
            self.assertEqual(mirrored_row(mirrored), row)

    def test_no_rows(self):
        for value in list(NO_ROWS) + [value for value in odd_values() if not looks_like_row(value)]:
            with self.subTest(value=value):
                with self.assertRaises(InvalidRow):
                    mirrored_row(value)


class Lengths(unittest.TestCase):
    def test_sums_over_the_levels(self):
        for arity in (2, 3):
            for row in ROWS:
                left = sum(form[0] * arity ** level for level, form in enumerate(row))
                right = sum(form[1] * arity ** level for level, form in enumerate(row))
                self.assertEqual(sides_of(arity, row), (left, right))
                self.assertEqual(length_of(arity, row), left + right)

    def test_ordinary_rows(self):
        self.assertEqual([length_of(arity, ()) for arity in (2, 3)], [0, 0])
        self.assertEqual([sides_of(arity, ()) for arity in (2, 3)], [(0, 0), (0, 0)])
        self.assertEqual([length_of(arity, ((1, 1), (2, 1), (0, 3))) for arity in (2, 3)], [20, 38])
        self.assertEqual([sides_of(arity, ((1, 1), (2, 1), (0, 3))) for arity in (2, 3)], [(5, 15), (7, 31)])

    def test_results_can_have_more_figures_than_arguments(self):
        self.assertEqual(length_of(3, ((7, 7),) * 200), 7 * (3 ** 200 - 1))

    def test_wrong_arities_come_first(self):
        for function in (length_of, sides_of):
            for arity in NO_ARITIES:
                for row in ((), ((1, 1),), ((0, 0),), None):
                    with self.subTest(function=function.__name__, arity=arity, row=row):
                        with self.assertRaises(InvalidNumber) as caught:
                            function(arity, row)
                        self.assertIs(caught.exception.value, arity)

    def test_no_rows(self):
        for function in (length_of, sides_of):
            for value in list(NO_ROWS) + [value for value in odd_values() if not looks_like_row(value)]:
                for arity in (2, 3):
                    with self.subTest(function=function.__name__, value=value):
                        with self.assertRaises(InvalidRow):
                            function(arity, value)


class Levels(unittest.TestCase):
    def test_all_small_lengths(self):
        greatest = 700
        for arity in (2, 3):
            numbers = {0: [0]}
            reached = {0}
            weight = 1
            for levels in range(1, 12):
                for many in sorted({before + top * weight for before in reached for top in range(1, 15)}):
                    numbers.setdefault(many, []).append(levels)
                reached = {before + top * weight for before in reached for top in range(15)}
                reached = {many for many in reached if many <= greatest}
                weight *= arity
            for length in range(greatest + 1):
                found = numbers[length]
                self.assertEqual(levels_for(arity, length), (min(found), max(found)), (arity, length))

    def test_where_the_numbers_change(self):
        for arity in (2, 3):
            room = 0
            for levels in range(1, 120):
                room += 14 * arity ** (levels - 1)
                self.assertEqual(levels_for(arity, room)[0], levels)
                self.assertEqual(levels_for(arity, room + 1)[0], levels + 1)
                self.assertEqual(levels_for(arity, arity ** levels)[1], levels + 1)
                self.assertEqual(levels_for(arity, arity ** levels - 1)[1], levels)

    def test_sixty_figures(self):
        self.assertEqual(levels_for(2, GREAT), (196, 200))
        self.assertEqual(levels_for(3, GREAT), (124, 126))
        for arity in (2, 3):
            least, greatest = levels_for(arity, GREAT)
            self.assertTrue(sum(14 * arity ** level for level in range(least - 1)) < GREAT)
            self.assertTrue(sum(14 * arity ** level for level in range(least)) >= GREAT)
            self.assertTrue(arity ** (greatest - 1) <= GREAT < arity ** greatest)

    def test_no_elements_no_levels(self):
        self.assertEqual([levels_for(2, 0), levels_for(3, 0)], [(0, 0), (0, 0)])

    def test_wrong_arities_come_first(self):
        for arity in NO_ARITIES:
            for length in (0, 5, -1, None, 10 ** 60):
                with self.subTest(arity=arity, length=length):
                    with self.assertRaises(InvalidNumber) as caught:
                        levels_for(arity, length)
                    self.assertIs(caught.exception.value, arity)

    def test_wrong_lengths(self):
        wrong = [-1, -2, GREAT + 1, 10 ** 99, -GREAT, True, False, None, "1", "", (), (1,), [1], {}, {1: 1}]
        for length in wrong + [value for value in odd_values() if not is_short_int(value) or value < 0]:
            for arity in (2, 3):
                with self.subTest(arity=arity, length=length):
                    with self.assertRaises(InvalidNumber) as caught:
                        levels_for(arity, length)
                    self.assertIs(caught.exception.value, length)


class Arities(unittest.TestCase):
    def test_two_and_three(self):
        for arity in (2, 3):
            self.assertIsNone(check_arity(arity))

    def test_values_of_every_kind(self):
        for value in odd_values():
            if is_int(value) and value in (2, 3):
                continue
            with self.subTest(value=value):
                with self.assertRaises(InvalidNumber) as caught:
                    check_arity(value)
                self.assertIs(caught.exception.value, value)


class Calls(unittest.TestCase):
    def test_arguments_are_not_changed(self):
        for function in (is_pair, is_form, is_row, write_pair, read_pair, write_row, read_row, trimmed, mirrored_row):
            self.assert_keeps(function, odd_values())
        for function in (length_of, sides_of, levels_for):
            self.assert_keeps(lambda value, call=function: call(2, value), odd_values())
            self.assert_keeps(lambda value, call=function: call(value, ()), odd_values())

    def assert_keeps(self, call, values):
        for value in values:
            before = copy.deepcopy(value)
            if value != before:
                # Copies of errors and of shells are not equal to them.
                continue
            try:
                call(value)
            except (InvalidForm, InvalidRow, InvalidNumber, ParseError):
                pass
            self.assertEqual(value, before)

    def test_equal_calls_have_equal_results(self):
        for row in ROWS:
            for function in (write_row, trimmed, mirrored_row):
                self.assertEqual(function(row), function(tuple(list(row))))

    def test_results_are_tuples(self):
        for result in (
            read_pair("1.2"), read_row("1.2 3.4"), read_row("-"), trimmed(((1, 1), (0, 0))), mirrored_row(((1, 2),)),
            sides_of(2, ((1, 2),)), levels_for(2, 9),
        ):
            self.assertIs(type(result), tuple)
        for form in read_row("1.2 3.4") + mirrored_row(((1, 2), (3, 4))) + trimmed(((1, 1), (0, 0))):
            self.assertIs(type(form), tuple)


if __name__ == "__main__":
    unittest.main()
