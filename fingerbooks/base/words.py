"""Integers, names and renamings, and the texts of integers."""

from fingerbooks.errors import InvalidOperation

MAX_FIGURES = 60
MAX_LETTERS = 8

# Python turns very long integers into texts slowly or not at all, so sizes are compared instead of figures counted.
# The exponent is MAX_FIGURES, which must be written as a literal there.
_TOO_GREAT = 10 ** 60


def is_integer(value):
    """Whether the value is an integer of at most sixty digits."""
    return isinstance(value, int) and not isinstance(value, bool) and -_TOO_GREAT < value < _TOO_GREAT


def is_count(value):
    """Whether the value is an integer of at most sixty digits and of at least 0."""
    return is_integer(value) and value >= 0


def is_within(value, least, greatest):
    """Whether the value is an integer between two others, which are not too small or too great themselves."""
    return is_integer(value) and least <= value <= greatest


def is_name(value):
    """Whether the value is a string of one to eight letters a to z."""
    if not isinstance(value, str) or not 1 <= len(value) <= MAX_LETTERS:
        return False
    return value.isascii() and value.isalpha() and value.islower()


def is_renaming(names, value):
    """Whether the value is a dict from just these names to different names."""
    if not _are_different_names(names):
        raise InvalidOperation("names must be a tuple of different names")
    if not isinstance(value, dict) or len(value) != len(names):
        return False
    # As many keys as names, and each name among them: so there is no other key.
    if not all([name in value for name in names]):
        return False
    return _are_different_names(tuple([value[name] for name in names]))


def _are_different_names(value):
    """Whether the value is a tuple of names, none of them twice."""
    if not isinstance(value, tuple) or not all([is_name(name) for name in value]):
        return False
    return len(set(value)) == len(value)


def integer_of(text):
    """The integer with this text, None if the string is the text of none of at most sixty digits."""
    figures = text.removeprefix("-")
    # isdigit alone would also take digits of other scripts.
    if not figures.isascii() or not figures.isdigit() or len(figures) > MAX_FIGURES:
        return None
    # So neither leading zeros nor -0 are taken.
    if figures[0] == "0" and text != "0":
        return None
    return int(text)


def words_of(line):
    """The parts of a line between its single blanks, () for a value that is no string."""
    return tuple(line.split(" ")) if isinstance(line, str) else ()
