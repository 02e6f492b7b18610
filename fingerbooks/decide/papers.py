"""Papers, which show that a book is good for a deed or that it is not, and the stands of deeds in right rows."""

from fingerbooks.base.forms import without_empty_end
from fingerbooks.book.books import check_book, check_deed, is_put
from fingerbooks.decide.links import links_of, numbers_of, start_number
from fingerbooks.decide.tables import Table, first_stand, is_at_end, is_stand, moves_from, stand_behind
from fingerbooks.deeds.rows import check_deed_in_row, row_if_done
from fingerbooks.errors import InvalidOperation
from fingerbooks.read.ways import forms_along, shortest_ways

_MAX_STANDS = 400


def paper(book, deed):
    """A paper for a book and a deed; a bad one has a row of least length."""
    table = Table(book, deed)
    if table.is_good:
        return "good", table.stands
    return "bad", _least_row(table)


def is_paper(book, deed, value):
    """Whether the value is a paper for a book and a deed."""
    check_book(book)
    check_deed(deed)
    if not isinstance(value, tuple) or len(value) != 2:
        return False
    word, shown = value
    if word == "good":
        return _shows_that_it_is_good(book, deed, shown)
    return word == "bad" and _is_failing(book, deed, shown)


def _is_failing(book, deed, value):
    """Whether the value is a right row in which the deed fails."""
    if not book.is_right(value) or (value == () and not is_put(deed)):
        return False
    return row_if_done(book, value, deed) is None


def _shows_that_it_is_good(book, deed, value):
    """Whether the value is the ascending tuple of the stands of a good paper."""
    if not isinstance(value, tuple) or not all([is_stand(book, stand) for stand in value]):
        return False
    if not all([value[at] < value[at + 1] for at in range(len(value) - 1)]):
        return False
    held = {stand: True for stand in value}
    if first_stand(book, deed) not in held:
        return False
    return all([_may_be_held(book, deed, stand, held) for stand in value])


def _may_be_held(book, deed, stand, held):
    """Whether a stand is no wrong one, and all that follow from it and go on to a final one are held, too."""
    if is_at_end(stand):
        return stand[4]
    return all([other in held or not _goes_on(book, other) for _, _, other in moves_from(book, deed, stand)])


def _goes_on(book, stand):
    """Whether a final stand can be reached from a stand that follows from another one, or it is one."""
    # New levels come to an end, or the deed breaks there: only the old row can be one that does not.
    return stand[0] == "" or book.reader.goes_on(stand[0])


def is_good(book, deed):
    """Whether the book is good for the deed."""
    return Table(book, deed).is_good


def least_bad(book, deed):
    """A right row of least length in which the deed fails, None if there is none."""
    table = Table(book, deed)
    return None if table.is_good else _least_row(table)


def _least_row(table):
    """A right row of least length that leads to a wrong stand of a table, which has one."""
    numbers = numbers_of(table)
    lines = [(ahead, form, behind) for ahead, _, form, _, _, behind in links_of(table)]
    goals = {numbers[stand]: True for stand in table.wrong}
    ways = shortest_ways(table.book.arity, lines, goals)
    # The forms of new levels stand behind those of the row.
    return without_empty_end(forms_along(ways, start_number(table)))


def stands_of(book, row, deed):
    """The stands through which a deed goes in a right row, from the start to a final one."""
    check_deed_in_row(book, row, deed)
    found = [first_stand(book, deed)]
    state = book.reader.first
    while len(found) <= len(row) or found[-1][1] != (0, 0):
        level = len(found) - 1
        form = row[level] if level < len(row) else (0, 0)
        is_inner = level + 1 < len(row)
        state = book.reader.next_state(state, form) if is_inner else ""
        found.append(stand_behind(book, found[-1], "inner" if is_inner else "last", form, state))
    return tuple(found)


def row_along(book, deed, stands):
    """A right row in which the deed goes just through these stands."""
    check_book(book)
    check_deed(deed)
    if not isinstance(stands, tuple) or not 0 < len(stands) <= _MAX_STANDS:
        raise InvalidOperation("stands are a tuple of at most 400 stands")
    if not all([is_stand(book, stand) for stand in stands]):
        raise InvalidOperation("stands have the form of stands")
    if stands[0] != first_stand(book, deed) or not is_at_end(stands[-1]):
        raise InvalidOperation("stands lead from the start to a final one")
    forms = [_form_between(book, deed, ahead, behind) for ahead, behind in zip(stands, stands[1:])]
    return without_empty_end(tuple(forms))


def _form_between(book, deed, ahead, behind):
    """The form of a move from a stand to another one, which must follow from it."""
    forms = [form for _, form, other in moves_from(book, deed, ahead) if other == behind]
    if forms == []:
        raise InvalidOperation("each stand follows from the one ahead of it")
    return forms[0]
