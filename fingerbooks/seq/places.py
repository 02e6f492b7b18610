"""Places of elements in rows, and where deeds leave them."""

from fingerbooks.base.forms import check_arity, check_row, length_of, sums_of
from fingerbooks.base.words import is_within
from fingerbooks.deeds.rows import new_row
from fingerbooks.errors import InvalidNumber, InvalidOperation, InvalidPlace

SIDES = ("left", "right")

# By how much a deed changes the numbers of the other elements.
_SHIFTS = {"pushl": 1, "pushr": 0, "popl": -1, "popr": 0}


def place_of(arity, row, number):
    """The place of the element with a number."""
    _check_number(arity, row, number)
    return _place_at(arity, row, number)


def _check_number(arity, row, number):
    """Refuse what is no arity, no row, or not the number of an element of the row."""
    if not is_within(number, 0, length_of(arity, row) - 1):
        raise InvalidNumber(number)


def _place_at(arity, row, number):
    """The place of the element with a number, which the row has."""
    level, side, begin, _ = [span for span in _spans(arity, row) if span[2] <= number < span[3]][0]
    index = number - begin
    path = []
    for _ in range(level):
        path.append(index % arity)
        index = index // arity
    return level, side, index, tuple(path[::-1])


def number_of(arity, row, place):
    """The number of the element at a place."""
    if not is_place(arity, row, place):
        raise InvalidPlace("the row has no such place")
    level, side, index, path = place
    for part in path:
        index = index * arity + part
    begins = [span[2] for span in _spans(arity, row) if span[:2] == (level, side)]
    return begins[0] + index


def is_place(arity, row, value):
    """Whether the value is a place in the row."""
    check_arity(arity)
    check_row(row)
    if not isinstance(value, tuple) or len(value) != 4:
        return False
    level, side, index, path = value
    if not is_within(level, 0, len(row) - 1) or side not in SIDES:
        return False
    if not is_within(index, 0, row[level][SIDES.index(side)] - 1):
        return False
    return isinstance(path, tuple) and len(path) == level and all([is_within(part, 0, arity - 1) for part in path])


def spans(arity, row):
    """For all sides with bundles, in order: the level, the side, the first number there and the one behind them."""
    check_arity(arity)
    check_row(row)
    return _spans(arity, row)


def _spans(arity, row):
    """What spans tells, for a row of any number of levels."""
    sizes = []
    weight = 1
    for level, (left, right) in enumerate(row):
        sizes.append((level, "left", left * weight))
        sizes.append((level, "right", right * weight))
        weight = weight * arity
    found = []
    begin = 0
    # The left sides come inward, and then the right sides outward.
    for level, side, size in sizes[::2] + sizes[::-2]:
        if size > 0:
            found.append((level, side, begin, begin + size))
        begin = begin + size
    return tuple(found)


def beside(arity, row, place):
    """The places of the elements ahead of and behind that at a place, None for one that is missing."""
    number = number_of(arity, row, place)
    ahead = _place_at(arity, row, number - 1) if number > 0 else None
    behind = _place_at(arity, row, number + 1) if number + 1 < length_of(arity, row) else None
    return ahead, behind


def outward(arity, row, number):
    """The level of the element with a number, and how many elements are nearer to the nearer end."""
    _check_number(arity, row, number)
    return _place_at(arity, row, number)[0], min(number, length_of(arity, row) - 1 - number)


def place_behind(book, row, deed, number):
    """The place in the new row of a deed of the element with a number in the old one, None if it is taken."""
    new = new_row(book, row, deed)
    _check_number(book.arity, row, number)
    _check_is_there(new)
    # All elements but the one that is put or taken stay in their order.
    behind = number + _SHIFTS[deed]
    return _place_at(book.arity, new, behind) if 0 <= behind < sum(sums_of(book.arity, new)) else None


def staying(book, row, deed):
    """How many elements of a row, but the one that is taken, have the same place in the new row of a deed."""
    new = new_row(book, row, deed)
    _check_is_there(new)
    ends = {(level, side, begin): end for level, side, begin, end in _spans(book.arity, new)}
    many = 0
    # Elements of one side stay where they are if the first one does, as far as the new side goes: the one that is taken
    # would be ahead of the first side or behind the last one.
    for level, side, begin, end in _spans(book.arity, row):
        begin_behind = begin + _SHIFTS[deed]
        end_behind = ends.get((level, side, begin_behind), begin_behind)
        many = many + min(end - begin, end_behind - begin_behind)
    return many


def _check_is_there(new):
    """Refuse a deed that breaks, so that there is no new row."""
    if new is None:
        raise InvalidOperation("the deed breaks")
