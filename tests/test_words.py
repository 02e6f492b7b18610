"""Promises 0.1, 0.4, 0.5, 0.7 and the interface of fingerbooks.base.words."""

import copy
import string
import unittest

from fingerbooks.base import words
from fingerbooks.base.words import integer_of, is_count, is_integer, is_name, is_renaming
from fingerbooks.errors import InvalidOperation
from tests.values import odd_values


def is_plain_int(value):
    return type(value) is int


class Interface(unittest.TestCase):
    def test_constants(self):
        self.assertEqual((words.MAX_FIGURES, words.MAX_LETTERS), (60, 8))

    def test_functions_are_defined_here(self):
        for function in (is_integer, is_count, is_name, is_renaming):
            self.assertEqual(function.__module__, "fingerbooks.base.words")


class Integers(unittest.TestCase):
    def test_sixty_figures_at_most(self):
        for sign in (1, -1):
            for value in (10 ** 58, 10 ** 59 - 1, 10 ** 59, 10 ** 60 - 1):
                self.assertIs(is_integer(sign * value), True)
            for value in (10 ** 60, 10 ** 60 + 1, 10 ** 61 - 1, 10 ** 61, 10 ** 99, 10 ** 100 - 1):
                self.assertIs(is_integer(sign * value), False)

    def test_small_ones(self):
        for value in range(-20, 21):
            self.assertIs(is_integer(value), True)
            self.assertIs(is_count(value), value >= 0)

    def test_counts(self):
        for value, expected in (
            (10 ** 59 - 1, True), (10 ** 59, True), (10 ** 60 - 1, True), (10 ** 60, False), (10 ** 99, False),
            (-(10 ** 59), False), (1 - 10 ** 60, False), (-(10 ** 60), False), (-1, False), (0, True),
        ):
            with self.subTest(value=value):
                self.assertIs(is_count(value), expected)

    def test_booleans_are_none(self):
        for value in (True, False):
            self.assertIs(is_integer(value), False)
            self.assertIs(is_count(value), False)

    def test_values_of_every_kind_are_judged(self):
        for value in odd_values():
            with self.subTest(value=value):
                expected = is_plain_int(value) and len(str(abs(value))) <= 60
                self.assertIs(is_integer(value), expected)
                self.assertIs(is_count(value), expected and value >= 0)


class Names(unittest.TestCase):
    def test_one_to_eight_letters(self):
        for many in range(1, 9):
            self.assertIs(is_name("z" * many), True)
        for many in (0, 9, 10, 4000):
            self.assertIs(is_name("z" * many), False)

    def test_each_letter_alone_and_among_others(self):
        for sign in [chr(code) for code in range(256)] + ["\u00df", "\u0131", "\u03b1", "\uff41"]:
            expected = sign in string.ascii_lowercase
            with self.subTest(sign=sign):
                for text in (sign, "a" + sign, sign + "a", "abc" + sign + "def"):
                    self.assertIs(is_name(text), expected)

    def test_values_of_every_kind_are_judged(self):
        for value in odd_values():
            with self.subTest(value=value):
                self.assertIs(is_name(value), isinstance(value, str) and value in ("a", "abcdefgh"))

    def test_a_tuple_of_letters_is_none(self):
        for value in (("a",), ["a"], {"a": "a"}, b"a"):
            self.assertIs(is_name(value), False)


class Renamings(unittest.TestCase):
    def test_right_ones(self):
        for names, value in (
            ((), {}),
            (("a",), {"a": "a"}),
            (("a",), {"a": "zzzzzzzz"}),
            (("a", "b"), {"b": "a", "a": "b"}),
            (("b", "a"), {"a": "x", "b": "a"}),
            (("abcdefgh", "c", "bb"), {"bb": "c", "c": "bb", "abcdefgh": "q"}),
        ):
            with self.subTest(names=names, value=value):
                self.assertIs(is_renaming(names, value), True)

    def test_wrong_ones(self):
        for value in (
            {}, {"a": "x"}, {"b": "x"}, {"a": "x", "b": "y", "c": "z"}, {"a": "x", "c": "y"}, {"a": "x", 1: "y"},
            {"a": "x", "b": "x"}, {"a": "b", "b": "b"}, {"a": "x", "b": ""}, {"a": "x", "b": "ninechars"},
            {"a": "x", "b": "Y"}, {"a": "x", "b": None}, {"a": "x", "b": ["y"]}, {"a": "x", "b": ("y",)},
            {"a": "x", "b": True}, {"a": 1, "b": 2}, {"a": {"a": "x"}, "b": "y"}, {("a", "b"): "x", "a": "y"},
            {None: "x", True: "y"},
        ):
            with self.subTest(value=value):
                self.assertIs(is_renaming(("a", "b"), value), False)

    def test_nothing_is_renamed_by_the_empty_dict_alone(self):
        for value in odd_values():
            with self.subTest(value=value):
                self.assertIs(is_renaming((), value), value == {})

    def test_values_of_every_kind_are_judged(self):
        for value in odd_values():
            with self.subTest(value=value):
                self.assertIs(is_renaming(("a",), value), value == {"a": "b"})

    def test_values_in_the_dict_of_every_kind_are_judged(self):
        for value in odd_values():
            with self.subTest(value=value):
                self.assertIs(is_renaming(("a",), {"a": value}), is_name(value))
                self.assertIs(is_renaming(("a", "c"), {"a": "b", "c": value}), is_name(value))

    def test_names_that_are_none(self):
        for names in (
            ["a", "b"], "ab", {"a": "b"}, None, 1, ("a", "a"), ("a", "b", "a"), ("a", ""), ("a", "ninechars"), ("A",),
            ("a", 1), ("a", True), ("a", None), ("a", ["b"]), (("a",),), ("a", {}),
        ):
            for value in ({}, {"a": "b"}, {"a": "x", "b": "y"}, None, 1):
                with self.subTest(names=names, value=value):
                    with self.assertRaises(InvalidOperation):
                        is_renaming(names, value)

    def test_names_of_every_kind_are_refused(self):
        for names in odd_values():
            if names in ((), ("a", "b")):
                continue
            with self.subTest(names=names):
                with self.assertRaises(InvalidOperation):
                    is_renaming(names, {})

    def test_arguments_are_not_changed(self):
        names, value = ("a", "b"), {"b": "a", "a": "b"}
        is_renaming(names, value)
        self.assertEqual((names, list(value.items())), (("a", "b"), [("b", "a"), ("a", "b")]))
        wrong = {"a": ["b"], "b": {"c": (1,)}}
        kept = copy.deepcopy(wrong)
        is_renaming(names, wrong)
        self.assertEqual(wrong, kept)


class TextsOfIntegers(unittest.TestCase):
    def test_integers(self):
        for value in list(range(-120, 121)) + [10 ** 59, 10 ** 60 - 1, -(10 ** 59), 1 - 10 ** 60]:
            self.assertEqual(integer_of(str(value)), value)

    def test_texts_of_none(self):
        for text in (
            "", "-", "-0", "00", "01", "-01", "--1", "+1", " 1", "1 ", "1\n", "1_0", "1.0", "1-", "a", "0x1", "\u0663",
            "\u00b2", "1" * 61, "-" + "1" * 61, "0" * 60, "9" * 4000,
        ):
            with self.subTest(text=text):
                self.assertIsNone(integer_of(text))


if __name__ == "__main__":
    unittest.main()
