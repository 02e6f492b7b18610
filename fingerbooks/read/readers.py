"""Readers, which tell the rows that are right, and the comparison of two of them."""

from fingerbooks.base.forms import check_arity, check_forms, is_form, is_row, mirrored_pair, write_pair
from fingerbooks.base.words import is_name
from fingerbooks.errors import InvalidOperation, InvalidReader
from fingerbooks.read.lines import are_ascending_names, gathered, told_by_reader_line
from fingerbooks.read.merging import merged, needed_reads
from fingerbooks.read.pairing import lines_of_both
from fingerbooks.read.ways import forms_along, reached, shortest_ways

MAX_STATES = 6
MAX_READS = 60


class Reader:
    """States and lines that lead along the forms of rows: those that end in a state that ends are right."""

    def __init__(self, first, ends, reads):
        if not _is_reader(first, ends, reads):
            raise InvalidReader("there is no such reader")
        self._first = first
        self._ends = ends
        self._reads = {place: reads[place] for place in sorted(reads)}
        self._states = _states_of(first, ends, reads)
        self._forms = tuple(sorted(set([form for _, form in reads])))
        self._lines = (f"first {first}", " ".join(("ends",) + ends)) + tuple(
            [f"read {state} {write_pair(form)} {after}" for (state, form), after in self._reads.items()]
        )
        needed = needed_reads(first, ends, reads)
        self._spare = tuple([place for place in self._reads if place not in needed])
        self._going_on = _states_going_on(ends, reads)
        self._onward = {
            state: tuple([(form, after) for (ahead, form), after in self._reads.items() if ahead == state])
            for state in self._states
        }

    @classmethod
    def from_lines(cls, *lines):
        """The reader with these lines, which come in any order."""
        first, ends, reads = parts_told(gathered(lines, told_by_reader_line))
        return cls(first, ends, reads)

    @property
    def first(self):
        """The first state."""
        return self._first

    @property
    def ends(self):
        """The states that end, ascending."""
        return self._ends

    @property
    def reads(self):
        """A dict from pairs of a state and a form to the next states."""
        return {place: after for place, after in self._reads.items()}

    @property
    def states(self):
        """All states, ascending."""
        return self._states

    @property
    def forms(self):
        """The forms in the lines, ascending."""
        return self._forms

    @property
    def lines(self):
        """The lines: the first state, the states that end, and the reads, ascending."""
        return self._lines

    @property
    def spare(self):
        """The pairs of a state and a form whose lines no right row needs, ascending."""
        return self._spare

    def next_state(self, state, form):
        """The state to which a line leads from a state with a form, the empty string if there is none."""
        return self._reads.get((state, form), "")

    def onward(self, state):
        """The pairs of a form and the next state for the lines of a state, ascending; () for what is no state."""
        return self._onward.get(state, ())

    def goes_on(self, state):
        """Whether lines lead from a state to one that ends, one line at least."""
        return state in self._going_on

    def behind(self, forms):
        """The state to which a tuple of forms leads, the empty string if lines do not lead along them."""
        check_forms(forms)
        return self._led_to(forms)

    def _led_to(self, forms):
        """The state behind forms that have been checked."""
        state = self._first
        for form in forms:
            state = self._reads.get((state, form), "")
        return state

    def takes(self, value):
        """Whether the value is a right row."""
        return is_row(value) and self.takes_row(value)

    def takes_row(self, row):
        """Whether a row, of any number of levels, is right."""
        return row == () or self._led_to(row) in self._ends

    def mirrored(self):
        """The reader with the numbers of all forms exchanged."""
        reads = {(state, mirrored_pair(form)): after for (state, form), after in self._reads.items()}
        return Reader(self._first, self._ends, reads)

    def least(self):
        """A reader with the same right rows and as few states as possible."""
        if len(self._spare) == len(self._reads):
            raise InvalidOperation("only the empty row is right, so no state could end")
        first, ends, reads = merged(self._first, self._ends, self._reads)
        return Reader(first, ends, reads)

    def __len__(self):
        return len(self._states)

    def __eq__(self, other):
        return isinstance(other, Reader) and self._lines == other._lines

    def __str__(self):
        return f"reader with {len(self._states)} states, {len(self._reads)} reads"


def parts_told(told):
    """First state, states that end and reads, as gathered from lines; None for a line that is missing."""
    reads = {about[1:]: after for about, after in told.items() if about[0] == "read"}
    return told.get(("first",)), told.get(("ends",)), reads


def check_reader(value):
    """Refuse a value that is no reader."""
    if not isinstance(value, Reader):
        raise InvalidReader("this is no reader")


def _is_reader(first, ends, reads):
    """Whether there is a reader with this first state, these states that end and these reads."""
    if not is_name(first) or not are_ascending_names(ends) or not _are_reads(reads):
        return False
    if len(_states_of(first, ends, reads)) > MAX_STATES:
        return False
    if first in ends or first in list(reads.values()):
        return False
    return all([form != (0, 0) or after not in ends for (_, form), after in reads.items()])


def _are_reads(value):
    """Whether the value is a dict of at most 60 reads: from pairs of a name and a form to names."""
    if not isinstance(value, dict) or len(value) > MAX_READS:
        return False
    return all([_is_read_place(place) and is_name(after) for place, after in value.items()])


def _is_read_place(value):
    """Whether the value is a pair of a name and a form."""
    return isinstance(value, tuple) and len(value) == 2 and is_name(value[0]) and is_form(value[1])


def _states_of(first, ends, reads):
    """All states that are named, ascending."""
    named = [first] + list(ends) + [state for state, _ in reads] + list(reads.values())
    return tuple(sorted(set(named)))


def _states_going_on(ends, reads):
    """The states from which lines lead to one that ends, one line at least, as a dict of True."""
    back = {}
    for (state, _), after in reads.items():
        back.setdefault(after, []).append(state)
    return reached([state for (state, _), after in reads.items() if after in ends], back)


def is_including(one, other):
    """Whether all rows that are right for the other reader are right for the one."""
    check_reader(one)
    check_reader(other)
    return all([pair[0] in one.ends or pair[1] not in other.ends for _, _, pair in lines_of_both(one, other)])


def parting_row(arity, one, other):
    """A row of least length that is right for just one of two readers, None if there is none."""
    check_arity(arity)
    check_reader(one)
    check_reader(other)
    lines = lines_of_both(one, other)
    # The empty row is right for both, so no row parts them before a line is read.
    goals = {pair: True for _, _, pair in lines if (pair[0] in one.ends) != (pair[1] in other.ends)}
    start = (one.first, other.first)
    ways = shortest_ways(arity, lines, goals)
    return forms_along(ways, start) if start in ways else None
