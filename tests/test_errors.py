"""Promises 1.1 and 1.2: the error classes, what they derive from and what they keep."""

import unittest

from fingerbooks import errors
from tests.values import odd_values

WITH_MESSAGE = (
    "InvalidForm", "InvalidRow", "InvalidReader", "InvalidPage", "InvalidBook", "InvalidPlace", "InvalidSequence",
    "InvalidPlan", "InvalidPaper", "InvalidOperation",
)
# Name of the class, its one base, and the attribute that keeps what it takes.
KEEPING = (
    ("ParseError", errors.SpanError, "number"),
    ("UnknownName", KeyError, "word"),
    ("EmptySequence", LookupError, "tried"),
    ("InvalidNumber", IndexError, "value"),
    ("NothingToUndo", RuntimeError, "many"),
    ("TooMany", OverflowError, "limit"),
    ("Refused", ArithmeticError, "pledge"),
    ("Broken", ArithmeticError, "row"),
)
BUILTIN = (
    ValueError, KeyError, LookupError, IndexError, RuntimeError, OverflowError, ArithmeticError, TypeError,
    ZeroDivisionError, AttributeError, StopIteration, NotImplementedError, OSError, AssertionError,
)


def bases():
    """Each class of the document with the one class from which it is directly derived."""
    found = {"SpanError": ValueError}
    for name in WITH_MESSAGE:
        found[name] = errors.SpanError
    for name, base, _ in KEEPING:
        found[name] = base
    return found


def made(name):
    return getattr(errors, name)("told")


class Derivation(unittest.TestCase):
    def test_direct_bases(self):
        for name, base in bases().items():
            with self.subTest(name=name):
                self.assertEqual(getattr(errors, name).__bases__, (base,))

    def test_defined_in_the_module_of_the_errors(self):
        for name in bases():
            with self.subTest(name=name):
                self.assertEqual(getattr(errors, name).__module__, "fingerbooks.errors")
                self.assertEqual(getattr(errors, name).__name__, name)

    def test_the_module_has_no_other_errors(self):
        found = {name for name, value in vars(errors).items() if isinstance(value, type)}
        self.assertEqual(found, set(bases()))

    def test_caught_by_its_own_name_and_by_no_other_of_the_package(self):
        for name, base in bases().items():
            for other in bases():
                caught_by = getattr(errors, other)
                expected = other == name or caught_by is base
                with self.subTest(name=name, other=other):
                    self.assertEqual(self.is_caught(name, caught_by), expected)

    def test_caught_by_the_builtin_classes_above_it_and_by_no_others(self):
        for name, base in bases().items():
            for other in BUILTIN:
                with self.subTest(name=name, other=other.__name__):
                    self.assertEqual(self.is_caught(name, other), issubclass(base, other))

    def is_caught(self, name, caught_by):
        try:
            raise made(name)
        except caught_by as error:
            self.assertIs(type(error), getattr(errors, name))
            return True
        except Exception:
            return False


class Keeping(unittest.TestCase):
    def test_keeps_what_it_takes_in_the_attribute_that_is_told(self):
        for name, _, attribute in KEEPING:
            for value in odd_values():
                with self.subTest(name=name, value=value):
                    self.assertIs(getattr(getattr(errors, name)(value), attribute), value)

    def test_keeps_objects_of_any_kind(self):
        thing = object()
        for name, _, attribute in KEEPING:
            with self.subTest(name=name):
                self.assertIs(getattr(getattr(errors, name)(thing), attribute), thing)

    def test_keeps_it_when_raised(self):
        for name, _, attribute in KEEPING:
            with self.subTest(name=name):
                with self.assertRaises(getattr(errors, name)) as caught:
                    raise getattr(errors, name)((1, 2))
                self.assertEqual(getattr(caught.exception, attribute), (1, 2))

    def test_takes_just_one_value(self):
        for name, _, _ in KEEPING:
            with self.subTest(name=name):
                with self.assertRaises(TypeError):
                    getattr(errors, name)()
                with self.assertRaises(TypeError):
                    getattr(errors, name)(1, 2)

    def test_others_take_a_message(self):
        for name in ("SpanError",) + WITH_MESSAGE:
            with self.subTest(name=name):
                self.assertIsInstance(getattr(errors, name)("why it is wrong"), errors.SpanError)

    def test_each_can_be_shown(self):
        for name in bases():
            with self.subTest(name=name):
                self.assertIsInstance(str(made(name)), str)


if __name__ == "__main__":
    unittest.main()
