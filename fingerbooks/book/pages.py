"""Pages, which tell what happens at a level, and machines, which go through rows by them."""

from fingerbooks.base.forms import (
    MAX_SIDE, check_arity, check_row, is_form, is_pair_within, mirrored_pair, pair_of, without_empty_end, write_pair,
)
from fingerbooks.base.words import is_name, words_of
from fingerbooks.errors import InvalidOperation, InvalidPage, ParseError, UnknownName

WHERE = ("inner", "last")
MAX_PASS = 2
MAX_PAGES = 150


def is_passed(value):
    """Whether the value is a pair of numbers from -2 to 2, which can come to a level."""
    return is_pair_within(value, -MAX_PASS, MAX_PASS)


def is_where(value):
    """Whether the value is one of the two words for levels."""
    return value in WHERE


def is_raw(value):
    """Whether the value is a pair of numbers from -2 to 9, which a form and what comes to it can make."""
    return is_pair_within(value, -MAX_PASS, MAX_SIDE + MAX_PASS)


class Page:
    """What happens at a level: for a note, a kind of level and a raw pair."""

    def __init__(self, note, where, raw, form, passed, after):
        self._arities = _arities_for(where, raw, form, passed)
        if not is_name(note) or not is_name(after) or self._arities == ():
            raise InvalidPage("there is no such page")
        self._note = note
        self._where = where
        self._raw = raw
        self._form = form
        self._passed = passed
        self._after = after
        self._line = (
            f"page {note} {where} {write_pair(raw)} to {write_pair(form)} pass {write_pair(passed)} then {after}"
        )

    @classmethod
    def from_line(cls, line):
        """The page with this line."""
        words = words_of(line)
        if len(words) != 10 or (words[0], words[4], words[6], words[8]) != ("page", "to", "pass", "then"):
            raise ParseError(None)
        raw, form, passed = pair_of(words[3]), pair_of(words[5]), pair_of(words[7])
        try:
            return cls(words[1], words[2], raw, form, passed, words[9])
        except InvalidPage:
            raise ParseError(None) from None

    @property
    def note(self):
        """The note for which the page is."""
        return self._note

    @property
    def where(self):
        """Whether the page is for inner or for last levels."""
        return self._where

    @property
    def raw(self):
        """The raw pair for which the page is."""
        return self._raw

    @property
    def form(self):
        """The new form."""
        return self._form

    @property
    def passed(self):
        """The pair that comes to the next level."""
        return self._passed

    @property
    def after(self):
        """The next note."""
        return self._after

    @property
    def line(self):
        """The line of the page."""
        return self._line

    @property
    def place(self):
        """What the page is for: the note, the word for the level, and the raw pair."""
        return self._note, self._where, self._raw

    @property
    def arities(self):
        """The arities for which it is a page, ascending."""
        return self._arities

    def mirrored(self):
        """The page with the numbers of all pairs exchanged."""
        raw, form, passed = mirrored_pair(self._raw), mirrored_pair(self._form), mirrored_pair(self._passed)
        return Page(self._note, self._where, raw, form, passed, self._after)

    def __eq__(self, other):
        return isinstance(other, Page) and self._line == other._line

    def __str__(self):
        return f"{self._line}"


def _arities_for(where, raw, form, passed):
    """The arities for which there is a page with these, () also if they are not of the kinds that a page has."""
    if not is_where(where) or not is_raw(raw) or not is_form(form) or not is_passed(passed):
        return ()
    return tuple([arity for arity in (2, 3) if _fits(arity, where, raw, form, passed)])


def _fits(arity, where, raw, form, passed):
    """Whether no bundle is lost or made when a raw pair becomes a form and something is passed."""
    if where == "inner":
        return form == (raw[0] - arity * passed[0], raw[1] - arity * passed[1])
    return min(passed) >= 0 and sum(form) + arity * sum(passed) == sum(raw)


class Machine:
    """Pages for one arity, which tell together what happens in rows."""

    def __init__(self, arity, pages):
        check_arity(arity)
        if not _are_pages(arity, pages):
            raise InvalidPage("a machine has a tuple of at most 150 pages for its arity, no two of one place")
        by_place = {page.place: page for page in pages}
        self._arity = arity
        self._table = {place: by_place[place] for place in sorted(by_place)}
        self._pages = tuple(list(self._table.values()))
        self._notes = tuple(sorted(set([page.note for page in pages] + [page.after for page in pages])))

    @property
    def arity(self):
        """The arity for which all pages are."""
        return self._arity

    @property
    def pages(self):
        """The pages, ascending by their places."""
        return self._pages

    @property
    def notes(self):
        """The notes in the pages, ascending."""
        return self._notes

    def step(self, note, where, raw):
        """What happens at a level: its new form, the pair for the next level and the next note; None if it breaks."""
        if not is_name(note):
            raise InvalidOperation("this is no note")
        if not is_where(where):
            raise InvalidOperation("a level is inner or last")
        if not is_raw(raw):
            raise InvalidOperation("this is no raw pair")
        return self.result(note, where, raw)

    def result(self, note, where, raw):
        """What step tells, for values that need no check."""
        page = self._table.get((note, where, raw))
        if page is not None:
            return page.form, page.passed, page.after
        if 0 <= min(raw) and max(raw) <= MAX_SIDE:
            return raw, (0, 0), note
        return None

    def run(self, note, pair, row):
        """What happens in a row: the new row, None if the machine breaks, and the steps at its levels."""
        if not is_name(note):
            raise InvalidOperation("this is no note")
        if not is_passed(pair):
            raise InvalidOperation("a pair that comes to a level has numbers from -2 to 2")
        check_row(row)
        return self.passage(note, pair, row)

    def passage(self, note, pair, row):
        """What run tells, for values that need no check."""
        forms = []
        steps = []
        # Each new level gets fewer bundles than the one ahead of it, so there are few of them.
        while len(steps) < len(row) or pair != (0, 0):
            old = row[len(steps)] if len(steps) < len(row) else (0, 0)
            where = "inner" if len(steps) + 1 < len(row) else "last"
            raw = (old[0] + pair[0], old[1] + pair[1])
            result = self.result(note, where, raw)
            steps.append((where, raw, result))
            if result is None:
                return None, tuple(steps)
            form, pair, note = result
            forms.append(form)
        return without_empty_end(tuple(forms)), tuple(steps)

    def __getitem__(self, place):
        if not _is_place_of_page(place) or place not in self._table:
            raise UnknownName(place)
        return self._table[place]

    def __contains__(self, value):
        if isinstance(value, Page):
            return self._table.get(value.place) == value
        return _is_place_of_page(value) and value in self._table

    def __iter__(self):
        raise TypeError("a machine is not iterated over")

    def __len__(self):
        return len(self._pages)

    def __eq__(self, other):
        return isinstance(other, Machine) and self._arity == other._arity and self._pages == other._pages

    def __str__(self):
        return f"machine of arity {self._arity} with {len(self._pages)} pages"


def _are_pages(arity, value):
    """Whether the value is a tuple of at most 150 pages for an arity, no two of one place."""
    if not isinstance(value, tuple) or len(value) > MAX_PAGES:
        return False
    if not all([isinstance(page, Page) and arity in page.arities for page in value]):
        return False
    return len(set([page.place for page in value])) == len(value)


def _is_place_of_page(value):
    """Whether the value is a triple of a note, a word for levels and a raw pair, so that it can be looked up."""
    if not isinstance(value, tuple) or len(value) != 3:
        return False
    return is_name(value[0]) and is_where(value[1]) and is_raw(value[2])
