"""Pairs, forms and rows: their texts, their lengths and their levels."""

from fingerbooks.base.words import integer_of, is_count, is_integer, is_within
from fingerbooks.errors import InvalidForm, InvalidNumber, InvalidRow, ParseError

MAX_SIDE = 7
MAX_LEVELS = 200


def is_pair(value):
    """Whether the value is a tuple of two integers."""
    return isinstance(value, tuple) and len(value) == 2 and is_integer(value[0]) and is_integer(value[1])


def is_pair_within(value, least, greatest):
    """Whether the value is a pair of integers between two others."""
    return is_pair(value) and least <= min(value) and max(value) <= greatest


def is_form(value):
    """Whether the value is a pair of integers from 0 to 7."""
    return is_pair_within(value, 0, MAX_SIDE)


def are_forms(value):
    """Whether the value is a tuple of at most 200 forms, which can end with (0, 0)."""
    return isinstance(value, tuple) and len(value) <= MAX_LEVELS and all([is_form(form) for form in value])


def is_row(value):
    """Whether the value is a row of at most 200 levels."""
    return are_forms(value) and (value == () or value[-1] != (0, 0))


def check_forms(forms):
    """Refuse a value that is no tuple of at most 200 forms."""
    if not are_forms(forms):
        raise InvalidRow("this is no tuple of at most 200 forms")


def check_row(row):
    """Refuse a value that is no row."""
    if not is_row(row):
        raise InvalidRow("this is no row")


def check_arity(arity):
    """Refuse a value that is the arity of no book."""
    if not is_within(arity, 2, 3):
        raise InvalidNumber(arity)


def write_pair(pair):
    """The text of a pair, like -1.3."""
    if not is_pair(pair):
        raise InvalidForm("this is no pair")
    return f"{pair[0]}.{pair[1]}"


def read_pair(text):
    """The pair with a text."""
    pair = pair_of(text) if isinstance(text, str) else None
    if pair is None:
        raise ParseError(None)
    return pair


def pair_of(text):
    """The pair with this text, None if the string is the text of none."""
    numbers = tuple([integer_of(part) for part in text.split(".")])
    # A part that is the text of no integer has become None, which no pair has.
    if not is_pair(numbers):
        return None
    return numbers


def write_row(row):
    """The text of a row, like 2.3 1.0, and - for the empty one."""
    check_row(row)
    return text_of_row(row)


def text_of_row(row):
    """What write_row tells, for a row of any number of levels."""
    if row == ():
        return "-"
    return " ".join([f"{left}.{right}" for left, right in row])


def read_row(text):
    """The row with a text."""
    if not isinstance(text, str):
        raise ParseError(None)
    if text == "-":
        return ()
    row = tuple([read_pair(part) for part in text.split(" ")])
    if not is_row(row):
        raise ParseError(None)
    return row


def trimmed(forms):
    """A tuple of forms without those (0, 0) at its inner end."""
    check_forms(forms)
    return without_empty_end(forms)


def without_empty_end(forms):
    """A tuple of any number of forms without those (0, 0) at its inner end."""
    levels = len(forms)
    while levels > 0 and forms[levels - 1] == (0, 0):
        levels -= 1
    return forms[:levels]


def mirrored_row(row):
    """A row with the numbers of each form exchanged."""
    check_row(row)
    return tuple([mirrored_pair(form) for form in row])


def mirrored_pair(pair):
    """A pair with its numbers exchanged."""
    return pair[1], pair[0]


def length_of(arity, row):
    """The number of elements of a row."""
    left, right = sides_of(arity, row)
    return left + right


def sides_of(arity, row):
    """The pair of the numbers of elements at the left and at the right sides of a row."""
    check_arity(arity)
    check_row(row)
    return sums_of(arity, row)


def sums_of(arity, row):
    """What sides_of tells, for a row of any number of levels."""
    left_sum = 0
    right_sum = 0
    for left, right in row[::-1]:
        left_sum = left_sum * arity + left
        right_sum = right_sum * arity + right
    return left_sum, right_sum


def levels_for(arity, length):
    """The pair of the least and the greatest number of levels of rows with a length."""
    check_arity(arity)
    if not is_count(length):
        raise InvalidNumber(length)
    return _least_levels(arity, length), _greatest_levels(arity, length)


def _least_levels(arity, length):
    """How many levels hold so many elements if all their sides are full."""
    # A level has room for more than arity - 1 bundles, so every length up to that of full levels can be had.
    levels = 0
    room = 0
    weight = 1
    while room < length:
        room = room + 2 * MAX_SIDE * weight
        weight = weight * arity
        levels += 1
    return levels


def _greatest_levels(arity, length):
    """How many levels there are if the innermost one has as few elements as possible."""
    # The innermost level has a bundle; the outer ones can have what is left, as the figures of a number.
    levels = 0
    weight = 1
    while weight <= length:
        weight = weight * arity
        levels += 1
    return levels
