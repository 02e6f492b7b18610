"""Books: a reader, a machine, and the notes with which deeds start."""

from fingerbooks.base.words import is_name, is_renaming, words_of
from fingerbooks.book.pages import Machine, Page
from fingerbooks.errors import InvalidBook, InvalidOperation, InvalidPage, InvalidReader, ParseError, UnknownName
from fingerbooks.read.lines import gathered, told_by_reader_line
from fingerbooks.read.readers import Reader, parts_told

DEEDS = ("pushl", "pushr", "popl", "popr")

_FIRST_PAIRS = {"pushl": (1, 0), "pushr": (0, 1), "popl": (-1, 0), "popr": (0, -1)}
_OTHER_END = {"pushl": "pushr", "pushr": "pushl", "popl": "popr", "popr": "popl"}


class Book:
    """Which rows are right, and what deeds do with them."""

    def __init__(self, reader, machine, starts):
        if not isinstance(reader, Reader):
            raise InvalidReader("this is no reader")
        if not isinstance(machine, Machine):
            raise InvalidPage("this is no machine")
        if not _are_starts(starts):
            raise InvalidOperation("starts are a dict from the deeds to notes")
        self._reader = reader
        self._machine = machine
        self._starts = {deed: starts[deed] for deed in DEEDS}
        self._notes = tuple(sorted(set(list(machine.notes) + list(starts.values()))))
        start_lines = tuple([f"start {deed} {starts[deed]}" for deed in DEEDS])
        page_lines = tuple([page.line for page in machine.pages])
        self._lines = (f"arity {machine.arity}",) + reader.lines + start_lines + page_lines

    @classmethod
    def from_lines(cls, *lines):
        """The book with these lines, which come in any order."""
        told = gathered(lines, told_by_book_line)
        if not all([about in told for about in [("arity",)] + [("start", deed) for deed in DEEDS]]):
            raise InvalidBook("a book has its arity and a start for each deed")
        first, ends, reads = parts_told(told)
        reader = Reader(first, ends, reads)
        machine = Machine(told[("arity",)], tuple([told[about] for about in told if about[0] == "page"]))
        return cls(reader, machine, {deed: told[("start", deed)] for deed in DEEDS})

    @property
    def reader(self):
        """The reader, which tells the rows that are right."""
        return self._reader

    @property
    def machine(self):
        """The machine, which tells what happens in rows."""
        return self._machine

    @property
    def arity(self):
        """How many bundles a bundle of the next level has."""
        return self._machine.arity

    @property
    def starts(self):
        """A dict from the deeds to the notes with which they start."""
        return {deed: note for deed, note in self._starts.items()}

    @property
    def notes(self):
        """The notes of the pages and of the starts, ascending."""
        return self._notes

    @property
    def lines(self):
        """The lines: of the arity, of the reader, of the starts, and of the pages."""
        return self._lines

    def is_right(self, value):
        """Whether the value is a right row."""
        return self._reader.takes(value)

    def start_note(self, deed):
        """The note with which a deed starts."""
        return self._starts[deed]

    def passage(self, row, deed):
        """The new row of a deed, None if it breaks, and the steps of the machine, for values that need no check."""
        return self._machine.passage(self._starts[deed], first_pair(deed), row)

    def mirrored(self):
        """The book with the numbers of all forms and pairs exchanged, and the starts of left and right deeds."""
        machine = Machine(self._machine.arity, tuple([page.mirrored() for page in self._machine.pages]))
        return Book(self._reader.mirrored(), machine, {_OTHER_END[deed]: note for deed, note in self._starts.items()})

    def with_line(self, line):
        """The book with this line, in the place of the one that is about the same, if there is one."""
        told = told_by_book_line(line)
        if told is None:
            raise ParseError(None)
        others = [other for other in self._lines if told_by_book_line(other)[0] != told[0]]
        return Book.from_lines(*others, line)

    def without(self, line):
        """The book without one of its lines for reads and pages."""
        if line not in self or words_of(line)[0] not in ("read", "page"):
            raise UnknownName(line)
        others = [other for other in self._lines if other != line]
        return Book.from_lines(*others)

    def renamed(self, states, notes):
        """The book with other names, by dicts from its states and from its notes."""
        if not is_renaming(self._reader.states, states):
            raise InvalidOperation("states is no renaming of the states")
        if not is_renaming(self._notes, notes):
            raise InvalidOperation("notes is no renaming of the notes")
        reads = {(states[state], form): states[after] for (state, form), after in self._reader.reads.items()}
        ends = tuple(sorted([states[state] for state in self._reader.ends]))
        pages = [
            Page(notes[page.note], page.where, page.raw, page.form, page.passed, notes[page.after])
            for page in self._machine.pages
        ]
        starts = {deed: notes[note] for deed, note in self._starts.items()}
        return Book(Reader(states[self._reader.first], ends, reads), Machine(self._machine.arity, tuple(pages)), starts)

    def __contains__(self, value):
        return value in self._lines

    def __iter__(self):
        return iter(self._lines)

    def __len__(self):
        return len(self._lines)

    def __eq__(self, other):
        return isinstance(other, Book) and self._lines == other._lines

    def __str__(self):
        return f"book of arity {self._machine.arity}, {len(self._reader)} states, {len(self._machine)} pages"


def check_book(value):
    """Refuse a value that is no book."""
    if not isinstance(value, Book):
        raise InvalidBook("this is no book")


def is_deed(value):
    """Whether the value is one of the four deeds."""
    return value in DEEDS


def check_deed(value):
    """Refuse a value that is no deed."""
    if not is_deed(value):
        raise InvalidOperation("this is no deed")


def is_put(deed):
    """Whether a deed puts an element, and does not take one."""
    return deed in ("pushl", "pushr")


def first_pair(deed):
    """The pair that comes to level 0 for a deed."""
    return _FIRST_PAIRS[deed]


def told_by_book_line(line):
    """What a line of a book is about, and what it tells of this; None for every value that is no such line."""
    words = words_of(line)
    if words in (("arity", "2"), ("arity", "3")):
        return ("arity",), int(words[1])
    if words[:1] == ("start",) and len(words) == 3 and words[1] in DEEDS and is_name(words[2]):
        return words[:2], words[2]
    if words[:1] == ("page",):
        return _told_by_page_line(line)
    return told_by_reader_line(line)


def _told_by_page_line(line):
    """What the line of a page is about, and the page; None if it is the line of none."""
    try:
        page = Page.from_line(line)
    except ParseError:
        return None
    return ("page",) + page.place, page


def _are_starts(value):
    """Whether the value is a dict from just the four deeds to notes."""
    if not isinstance(value, dict) or len(value) != len(DEEDS):
        return False
    return all([deed in value and is_name(value[deed]) for deed in DEEDS])
