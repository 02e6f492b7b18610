"""Sequences: integers in the places of a right row, which deeds put and take."""

from fingerbooks.base.forms import length_of, mirrored_row
from fingerbooks.base.words import is_count, is_integer, is_within
from fingerbooks.book.books import check_book
from fingerbooks.deeds.rows import check_can_be_done, check_right_row, row_if_done
from fingerbooks.errors import Broken, InvalidNumber, InvalidOperation, NothingToUndo, TooMany
from fingerbooks.seq.places import SIDES, spans

MAX_CONTENT = 5000


class Past:
    """The last deed that led to a sequence: its element, the row ahead of it, and the past of the sequence there."""

    def __init__(self, deed, element, row, earlier):
        self.deed = deed
        self.element = element
        self.row = row
        self.earlier = earlier


class Sequence:
    """A right row of a book with an integer in each place."""

    def __init__(self, book, content=()):
        check_book(book)
        if not _is_content(content):
            raise InvalidOperation("content is a tuple of at most 5000 integers")
        self._book = book
        self._content = content
        self._outline = ()
        self._past = None
        for element in content:
            self._past = Past("pushr", element, self._outline, self._past)
            self._outline = _row_behind(book, self._outline, "pushr")

    @classmethod
    def of_row(cls, book, row, content):
        """The sequence with this right row and as many integers in order."""
        check_right_row(book, row)
        if not _is_content(content) or len(content) != length_of(book.arity, row):
            raise InvalidOperation("content is a tuple of at most 5000 integers, one for each place")
        return _sequence(book, row, content, None)

    @property
    def book(self):
        """The book by which its deeds are done."""
        return self._book

    @property
    def outline(self):
        """Its row."""
        return self._outline

    @property
    def content(self):
        """Its elements in order."""
        return self._content

    @property
    def left_end(self):
        """The first element, None if there is none."""
        return self._content[0] if self._content != () else None

    @property
    def right_end(self):
        """The last element, None if there is none."""
        return self._content[-1] if self._content != () else None

    def pushl(self, element):
        """The sequence with another element at its left end."""
        self._check_put(element)
        return self._behind("pushl", element, (element,) + self._content)

    def pushr(self, element):
        """The sequence with another element at its right end."""
        self._check_put(element)
        return self._behind("pushr", element, self._content + (element,))

    def popl(self):
        """The sequence without its first element."""
        check_can_be_done(self._outline, "popl")
        return self._behind("popl", self._content[0], self._content[1:])

    def popr(self):
        """The sequence without its last element."""
        check_can_be_done(self._outline, "popr")
        return self._behind("popr", self._content[-1], self._content[:-1])

    def _check_put(self, element):
        """Refuse to put what is no integer, and more elements than there may be."""
        if not is_integer(element):
            raise InvalidOperation("an element is an integer")
        if len(self._content) == MAX_CONTENT:
            raise TooMany(MAX_CONTENT)

    def _behind(self, deed, element, content):
        """The sequence with other content to which a deed leads that puts or takes an element."""
        # Deeds leave the elements in their order, so the new row tells where each of them comes to.
        outline = _row_behind(self._book, self._outline, deed)
        return _sequence(self._book, outline, content, Past(deed, element, self._outline, self._past))

    def with_nth(self, index, element):
        """The sequence with another element at an index."""
        self._check_index(index)
        if not is_integer(element):
            raise InvalidOperation("an element is an integer")
        content = self._content[:index] + (element,) + self._content[index + 1:]
        return _sequence(self._book, self._outline, content, None)

    def _check_index(self, index):
        """Refuse what is the index of no element."""
        if not is_within(index, 0, len(self._content) - 1):
            raise InvalidNumber(index)

    def sides(self, level):
        """The left and the right side of a level: the bundles there, each of them the tuple of its elements."""
        if not is_within(level, 0, len(self._outline) - 1):
            raise InvalidNumber(level)
        bundles = {side: () for side in SIDES}
        for other, side, begin, end in spans(self._book.arity, self._outline):
            if other == level:
                size = (end - begin) // self._outline[level][SIDES.index(side)]
                bundles[side] = tuple([self._content[at:at + size] for at in range(begin, end, size)])
        return bundles["left"], bundles["right"]

    def mirrored(self):
        """The sequence with the elements in the opposite order, over the mirrored book."""
        return _sequence(self._book.mirrored(), mirrored_row(self._outline), self._content[::-1], None)

    def elder(self, *, many=1):
        """The sequence from which so many deeds led to this one."""
        if not is_count(many):
            raise InvalidNumber(many)
        outline = self._outline
        content = list(self._content)
        past = self._past
        for _ in range(many):
            if past is None:
                raise NothingToUndo(many)
            _take_back(content, past.deed, past.element)
            outline = past.row
            past = past.earlier
        return _sequence(self._book, outline, tuple(content), past)

    def __getitem__(self, index):
        self._check_index(index)
        return self._content[index]

    def __contains__(self, value):
        return is_integer(value) and value in self._content

    def __iter__(self):
        return iter(self._content)

    def __len__(self):
        return len(self._content)

    def __bool__(self):
        return bool(self._content)

    def __eq__(self, other):
        if not isinstance(other, Sequence):
            return False
        return self._book == other._book and self._outline == other._outline and self._content == other._content

    def __str__(self):
        return f"sequence of {len(self._content)} elements, {len(self._outline)} levels"


def _is_content(value):
    """Whether the value is a tuple of at most 5000 integers."""
    return isinstance(value, tuple) and len(value) <= MAX_CONTENT and all([is_integer(number) for number in value])


def _row_behind(book, row, deed):
    """The row behind a deed that can be done, which is refused if it fails."""
    new = row_if_done(book, row, deed)
    if new is None:
        raise Broken(row)
    return new


def _sequence(book, outline, content, past):
    """The sequence with all this, for values that need no check."""
    sequence = Sequence(book)
    sequence._outline = outline
    sequence._content = content
    sequence._past = past
    return sequence


def _take_back(content, deed, element):
    """Make content what it was ahead of a deed that put or took an element."""
    if deed == "pushl":
        content.pop(0)
    elif deed == "pushr":
        content.pop()
    elif deed == "popl":
        content.insert(0, element)
    else:
        content.append(element)
