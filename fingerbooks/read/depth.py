"""Which lengths right rows have, and how deep elements lie in them."""

from fingerbooks.base.forms import MAX_LEVELS, mirrored_row
from fingerbooks.base.words import is_within
from fingerbooks.book.books import check_book
from fingerbooks.errors import InvalidNumber, InvalidOperation
from fingerbooks.read.lengths import extreme_length, least_missing
from fingerbooks.read.readers import MAX_STATES
from fingerbooks.read.ways import forms_along, shortest_ways

SIDES = ("left", "right")

_MAX_EXCESS = 100

# Where a way is: at the levels whose elements are counted, at those behind these without any, or behind the element.
_OUTER = 0
_GAP = 1
_INNER = 2


def least_length(book, levels):
    """The least length of a right row with so many levels, None if there is none."""
    _check_levels(book, levels)
    return extreme_length(book.arity, book.reader, levels, False)


def most_length(book, levels):
    """The greatest length of a right row with so many levels, None if there is none."""
    _check_levels(book, levels)
    return extreme_length(book.arity, book.reader, levels, True)


def _check_levels(book, levels):
    """Refuse what is no book, and what is no number of levels."""
    check_book(book)
    if not is_within(levels, 0, MAX_LEVELS):
        raise InvalidNumber(levels)


def missing_length(book):
    """The least number of elements that no right row has, None if there is a right row of each length."""
    check_book(book)
    return least_missing(book.arity, book.reader)


def depth_bound(book, side):
    """The greatest excess of an element at a side in all right rows, None if there is none, 0 without such elements."""
    _check_side(book, side)
    excess = 0
    while _deepest(book, side, excess + 1) is not None:
        excess += 1
        # Then a state comes twice at levels without bundles at the side, so there can be any number of such levels.
        if excess == MAX_STATES:
            return None
    return excess


def deep_row(book, side, more):
    """A right row of least length with an element at a side that has at least such an excess, None if there is none."""
    _check_side(book, side)
    if not is_within(more, 0, _MAX_EXCESS):
        raise InvalidNumber(more)
    return _deepest(book, side, more)


def _check_side(book, side):
    """Refuse what is no book, and what is no side."""
    check_book(book)
    if side not in SIDES:
        raise InvalidOperation("a side is left or right")


def _deepest(book, side, more):
    """The row that deep_row tells, for values that have been checked."""
    if side == "left":
        return _deepest_at_left(book.arity, book.reader, more)
    row = _deepest_at_left(book.arity, book.reader.mirrored(), more)
    return None if row is None else mirrored_row(row)


def _deepest_at_left(arity, reader, more):
    """A row of least length with an element at the left side of at least such an excess, None if there is none."""
    # Of all elements at a side of a level the outermost one has the greatest excess. It is at least this great if the
    # number of elements ahead, and one, has so many figures less than there are levels up to this one.
    start = (_OUTER, reader.first, 1)
    lines = _lines_from(arity, reader, more, start)
    goals = {node: True for _, _, node in lines if node[0] == _INNER and node[1] in reader.ends}
    ways = shortest_ways(arity, lines, goals)
    return forms_along(ways, start) if start in ways else None


def _lines_from(arity, reader, more, start):
    """All lines between nodes, which tell where a way is, the state there, and a carry or how many levels are left."""
    lines = []
    known = {start: True}
    waiting = [start]
    while waiting:
        node = waiting.pop()
        for form, after in reader.onward(node[1]):
            for phase, number in _places_behind(arity, more, node[0], node[2], form[0]):
                other = (phase, after, number)
                lines.append((node, form, other))
                if other not in known:
                    known[other] = True
                    waiting.append(other)
    return lines


def _places_behind(arity, more, phase, number, many):
    """Where a way can be behind a level with so many bundles at the left, and the numbers that come to it."""
    if phase == _OUTER:
        return _places_behind_outer(arity, more, number, many)
    if phase == _GAP and number > 0:
        return [(_GAP, number - 1)] if many == 0 else []
    return [(_INNER, 0)] if phase == _INNER or many > 0 else []


def _places_behind_outer(arity, more, carry, many):
    """Where a way can be behind an outer level, to which a carry comes from the number of elements ahead, and one."""
    onward = (carry + many) // arity
    if more == 0:
        # The outermost element at the side has no excess below 0.
        return [(_OUTER, onward)] + ([(_INNER, 0)] if many > 0 else [])
    # The number has no more figures if nothing is carried on.
    return [(_OUTER, onward)] + ([(_GAP, more - 1)] if onward == 0 else [])
