"""Deeds on rows: the rows to which they lead, the steps that are done, and the levels that they touch."""

from fingerbooks.base.forms import sums_of
from fingerbooks.book.books import check_book, check_deed, is_deed, is_put
from fingerbooks.errors import Broken, EmptySequence, InvalidOperation, InvalidRow

MAX_DEEDS = 1000


def check_right_row(book, row):
    """Refuse what is no book, and what is no right row of it."""
    check_book(book)
    if not book.is_right(row):
        raise InvalidRow("this is no right row")


def check_deed_in_row(book, row, deed):
    """Refuse what is no book, no right row or no deed, and a deed that cannot be done in the row."""
    check_right_row(book, row)
    check_deed(deed)
    check_can_be_done(row, deed)


def check_can_be_done(row, deed):
    """Refuse a take in the empty row."""
    if row == () and not is_put(deed):
        raise EmptySequence(deed)


def row_if_done(book, row, deed):
    """The new row of a deed that can be done in a right row, None if it fails."""
    new = book.passage(row, deed)[0]
    # A deed can lead to more levels than a row has that is passed.
    return new if new is not None and book.reader.takes_row(new) else None


def new_row(book, row, deed):
    """The new row, right or not, None if the deed breaks."""
    check_deed_in_row(book, row, deed)
    return book.passage(row, deed)[0]


def is_done(book, row, deed):
    """Whether the deed is done."""
    check_deed_in_row(book, row, deed)
    return row_if_done(book, row, deed) is not None


def steps(book, row, deed):
    """The steps of the machine, one for each level up to the last one or to the one at which it breaks."""
    check_deed_in_row(book, row, deed)
    return book.passage(row, deed)[1]


def broken_at(book, row, deed):
    """The level at which the deed breaks, None if it does not."""
    done = steps(book, row, deed)
    # A deed has a step at least at level 0, as something comes to this level.
    return len(done) - 1 if done[-1][2] is None else None


def touched(book, row, deed):
    """The levels that the deed touches, ascending."""
    check_deed_in_row(book, row, deed)
    return levels_touched(book, row, deed)


def levels_touched(book, row, deed):
    """The levels that a deed touches that can be done in a right row, ascending."""
    done = book.passage(row, deed)[1]
    return tuple([level for level in range(len(done)) if _is_touched(row, done, level)])


def _is_touched(row, done, level):
    """Whether something comes to a level, or its form changes, or the machine breaks there."""
    old = row[level] if level < len(row) else (0, 0)
    _, raw, result = done[level]
    return raw != old or result is None or result[0] != old


def row_after(book, row, deeds):
    """The row behind deeds that are done one behind the other."""
    return _rows_along(book, row, deeds)[-1]


def lengths_along(book, row, deeds):
    """The lengths of all rows on the way along deeds, with the first one."""
    return tuple([sum(sums_of(book.arity, found)) for found in _rows_along(book, row, deeds)])


def _rows_along(book, row, deeds):
    """All rows on the way along deeds, with the first one."""
    check_right_row(book, row)
    if not isinstance(deeds, tuple) or len(deeds) > MAX_DEEDS or not all([is_deed(deed) for deed in deeds]):
        raise InvalidOperation("deeds are a tuple of at most 1000 deeds")
    rows = [row]
    for deed in deeds:
        check_can_be_done(rows[-1], deed)
        new = row_if_done(book, rows[-1], deed)
        if new is None:
            raise Broken(rows[-1])
        rows.append(new)
    return rows
