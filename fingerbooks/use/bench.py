"""Benches: books that are worked on, with pledges that must hold, and changes that can be taken back."""

from fingerbooks.base.words import is_count
from fingerbooks.book.books import DEEDS, check_book
from fingerbooks.decide.tables import Table
from fingerbooks.errors import InvalidNumber, InvalidOperation, NothingToUndo, ParseError, Refused, TooMany
from fingerbooks.use.pledges import holds, is_pledge, pledge_of, text_of_pledge

MAX_PLEDGES = 10


def write_pledge(pledge):
    """The text of a pledge."""
    if not is_pledge(pledge):
        raise InvalidOperation("this is no pledge")
    return text_of_pledge(pledge)


def read_pledge(text):
    """The pledge with a text."""
    pledge = pledge_of(text)
    if pledge is None:
        raise ParseError(None)
    return pledge


class Version:
    """What a bench has between two changes: a book, pledges, and the deeds for which the book is good."""

    def __init__(self, book, pledges, good_deeds):
        self.held_book = book
        self.held_lines = book.lines
        self.held_pledges = pledges
        self.good_deeds = good_deeds


class Kept:
    """What a bench had ahead of a block, and what was kept for the block around this one."""

    def __init__(self, versions, at, now, outer):
        self.versions = versions
        self.at = at
        self.now = now
        self.outer = outer


class Trial:
    """A block behind which a bench is as it was ahead of it."""

    def __init__(self, bench):
        self._bench = bench
        self._kept = None

    def __enter__(self):
        bench = self._bench
        self._kept = Kept(bench._versions, bench._at, bench._now, self._kept)
        return bench

    def __exit__(self, kind, value, trace):
        bench = self._bench
        bench._versions = self._kept.versions
        bench._at = self._kept.at
        bench._now = self._kept.now
        self._kept = self._kept.outer


class Bench:
    """A book that is worked on."""

    def __init__(self, book):
        check_book(book)
        self._now = Version(book, (), _good_deeds(book))
        # The versions behind all changes, also behind those that are taken back, and which of them is the present one.
        self._versions = (self._now,)
        self._at = 0

    @property
    def book(self):
        """The book."""
        return self._now.held_book

    @property
    def pledges(self):
        """The pledges, in the order of demands."""
        return self._now.held_pledges

    def draw(self, line):
        """Give the book a line, in the place of the one that is about the same, if there is one: the news."""
        return self._come_to_book(self._now.held_book.with_line(line))

    def erase(self, line):
        """Take a line from the book: the news."""
        return self._come_to_book(self._now.held_book.without(line))

    def _come_to_book(self, book):
        """Change the book, unless a pledge would not hold: the news."""
        good_deeds = _good_deeds(book)
        for pledge in self._now.held_pledges:
            _check_holds(book, pledge)
        return self._come_to(Version(book, self._now.held_pledges, good_deeds))

    def demand(self, pledge):
        """Take a pledge, which holds: the news."""
        if not is_pledge(pledge) or pledge in self._now.held_pledges:
            raise InvalidOperation("this is no pledge, or there already")
        if len(self._now.held_pledges) == MAX_PLEDGES:
            raise TooMany(MAX_PLEDGES)
        _check_holds(self._now.held_book, pledge)
        return self._come_to_pledges(self._now.held_pledges + (pledge,))

    def waive(self, pledge):
        """Give up a pledge: the news."""
        if not is_pledge(pledge) or pledge not in self._now.held_pledges:
            raise InvalidOperation("there is no such pledge")
        return self._come_to_pledges(tuple([other for other in self._now.held_pledges if other != pledge]))

    def _come_to_pledges(self, pledges):
        """Change the pledges: the news."""
        return self._come_to(Version(self._now.held_book, pledges, self._now.good_deeds))

    def _come_to(self, version):
        """Come to a new version, so that nothing is left to do again: the news."""
        self._versions = self._versions[:self._at + 1] + (version,)
        return self._go_to(self._at + 1)

    def _go_to(self, at):
        """Make another version the present one: the news."""
        before = self._now.good_deeds
        self._at = at
        self._now = self._versions[at]
        after = self._now.good_deeds
        return tuple([(deed, deed in after) for deed in DEEDS if (deed in before) != (deed in after)])

    def undo(self, *, many=1):
        """Take back so many changes: the news."""
        _check_many(many)
        if many > self._at:
            raise NothingToUndo(many)
        return self._go_to(self._at - many)

    def redo(self, *, many=1):
        """Do so many changes again that were taken back: the news."""
        _check_many(many)
        if many > len(self._versions) - 1 - self._at:
            raise NothingToUndo(many)
        return self._go_to(self._at + many)

    def loss(self, line):
        """The deeds for which the book is good and would not be without a line."""
        left = _good_deeds(self._now.held_book.without(line))
        return tuple([deed for deed in self._now.good_deeds if deed not in left])

    def trial(self):
        """What a with statement takes to have the bench in a block, behind which it is as ahead of it."""
        return Trial(self)

    def during(self, call):
        """What a function tells that is called with the bench in such a block."""
        with self.trial() as same:
            return call(same)

    def twin(self):
        """An independent copy, with all changes that can be taken back or done again."""
        other = Bench(self._now.held_book)
        other._versions = self._versions
        other._at = self._at
        other._now = self._now
        return other

    def __contains__(self, value):
        return value in self._now.held_lines or (is_pledge(value) and value in self._now.held_pledges)

    def __iter__(self):
        return iter(self._now.held_lines)

    def __len__(self):
        return len(self._now.held_lines)

    def __eq__(self, other):
        if not isinstance(other, Bench):
            return False
        return self._now.held_book == other._now.held_book and self._now.held_pledges == other._now.held_pledges

    def __str__(self):
        return f"bench with {len(self._now.held_lines)} lines, {len(self._now.held_pledges)} pledges"


def _good_deeds(book):
    """The deeds for which a book is good."""
    return tuple([deed for deed in DEEDS if Table(book, deed).is_good])


def _check_holds(book, pledge):
    """Refuse a pledge that does not hold of a book."""
    if not holds(book, pledge):
        raise Refused(pledge)


def _check_many(value):
    """Refuse what is no number of changes."""
    if not is_count(value):
        raise InvalidNumber(value)
