"""Stands, the moves from one to another, and the tables that decide for all lengths whether a deed is done."""

from fingerbooks.book.books import check_book, check_deed, first_pair, is_put
from fingerbooks.book.pages import is_passed
from fingerbooks.errors import InvalidOperation, TooMany
from fingerbooks.read.ways import reached

MAX_TABLE = 20000


def is_stand(book, value):
    """Whether the value has the form of a stand."""
    check_book(book)
    if not isinstance(value, tuple) or len(value) != 5:
        return False
    state, pair, note, new, ends = value
    if not _is_state_or_none(book, state) or not is_passed(pair) or not isinstance(ends, bool):
        return False
    if note == "":
        return value == _broken_stand(state)
    return note in book.notes and _is_state_or_none(book, new)


def _is_state_or_none(book, value):
    """Whether the value is a state of the reader of a book, or the empty string."""
    return value == "" or value in book.reader.states


def _broken_stand(state):
    """The stand behind a level at which the deed breaks, or behind a further one."""
    return state, (0, 0), "", "", False


def start_of(book, deed):
    """The stand in which a deed begins."""
    check_book(book)
    check_deed(deed)
    return first_stand(book, deed)


def first_stand(book, deed):
    """The stand in which a deed begins, for values that need no check."""
    return book.reader.first, first_pair(deed), book.start_note(deed), book.reader.first, True


def moves(book, deed, stand):
    """The moves from a stand, ascending: how a level is read, its old form, and the stand that follows."""
    check_book(book)
    check_deed(deed)
    if not is_stand(book, stand):
        raise InvalidOperation("this has not the form of a stand")
    return moves_from(book, deed, stand)


def moves_from(book, deed, stand):
    """The moves from a stand, for values that need no check."""
    state, pair = stand[:2]
    found = []
    for form, after in book.reader.onward(state):
        found.append(("inner", form, stand_behind(book, stand, "inner", form, after)))
        if after in book.reader.ends:
            found.append(("last", form, stand_behind(book, stand, "last", form, "")))
    # No line leads to the first state, so no other stand than the start is equal to it.
    in_empty_row = is_put(deed) and stand == first_stand(book, deed)
    if in_empty_row or (state == "" and pair != (0, 0)):
        found.append(("new", (0, 0), stand_behind(book, stand, "last", (0, 0), "")))
    return tuple(sorted(found))


def stand_behind(book, stand, where, form, state):
    """The stand that follows if a level with a form is read, behind which the old row is in a state."""
    new, ends = stand[3:]
    result = result_at(book, stand, where, form)
    if result is None:
        return _broken_stand(state)
    new_form, passed, after = result
    behind = book.reader.next_state(new, new_form)
    if new_form != (0, 0):
        ends = behind in book.reader.ends
    return state, passed, after, behind, ends


def result_at(book, stand, where, form):
    """What the machine does in a stand at a level with a form, None if it breaks there or has broken ahead of it."""
    _, pair, note, _, _ = stand
    # A broken stand has no note, and nothing is done any more behind it.
    if note == "":
        return None
    return book.machine.result(note, where, (form[0] + pair[0], form[1] + pair[1]))


def is_final(book, value):
    """Whether the value is a final stand."""
    return is_stand(book, value) and is_at_end(value)


def is_at_end(stand):
    """Whether the old row has ended in a stand, and nothing comes to a further level."""
    return stand[0] == "" and stand[1] == (0, 0)


class Table:
    """The stands that a deed comes through, as far as a final one can be reached from them."""

    def __init__(self, book, deed):
        check_book(book)
        check_deed(deed)
        self._book = book
        self._kind = deed
        self._start = first_stand(book, deed)
        self._ways, back = _explored(book, deed, self._start)
        live = reached([stand for stand in self._ways if is_at_end(stand)], back)
        # The start belongs to the table also if no deed can be done.
        self._held = {stand: True for stand in sorted(self._ways) if stand in live or stand == self._start}
        self._stands = tuple(list(self._held))
        self._finals = tuple([stand for stand in self._stands if is_at_end(stand)])
        self._wrong = tuple([stand for stand in self._finals if not stand[4]])

    @property
    def book(self):
        """The book by which the deed is done."""
        return self._book

    @property
    def kind(self):
        """The deed."""
        return self._kind

    @property
    def stands(self):
        """All stands, ascending."""
        return self._stands

    @property
    def finals(self):
        """The final stands, ascending."""
        return self._finals

    @property
    def wrong(self):
        """The final stands in which the new row is not right, ascending."""
        return self._wrong

    @property
    def is_good(self):
        """Whether the deed is done in all right rows in which it can be done."""
        return self._wrong == ()

    def way_to(self, stand):
        """As few moves as possible that lead from the start to a stand."""
        if stand not in self:
            raise InvalidOperation("the table has no such stand")
        found = []
        while stand != self._start:
            found.append(self._ways[stand][1])
            stand = self._ways[stand][0]
        return tuple(found[::-1])

    def __contains__(self, value):
        return is_stand(self._book, value) and value in self._held

    def __iter__(self):
        return iter(self._stands)

    def __len__(self):
        return len(self._stands)

    def __eq__(self, other):
        return isinstance(other, Table) and self._kind == other._kind and self._book == other._book

    def __str__(self):
        return f"table of {len(self._stands)} stands, {len(self._wrong)} wrong"


def _explored(book, deed, start):
    """All stands behind the start and itself, and those from which each of them follows.

    Each stand has the one ahead of it on a shortest way from the start, and the last move of this way.
    """
    ways = {start: ()}
    back = {}
    layer = [start]
    while layer != []:
        following = []
        for stand in list(layer):
            for move in moves_from(book, deed, stand):
                back.setdefault(move[2], []).append(stand)
                if move[2] not in ways:
                    ways[move[2]] = (stand, move)
                    following.append(move[2])
            if len(ways) > MAX_TABLE + 1:
                raise TooMany(MAX_TABLE)
        layer = following
    return ways, back
