"""The reads of a reader that right rows need, and readers with as few states as possible.

These functions take and return first states, states that end and reads, so that readers can be made of them.
"""

from fingerbooks.read.ways import reached


def needed_reads(first, ends, reads):
    """The places of those reads that lie on a way from the first state to one that ends, as a dict of True."""
    onward = {}
    back = {}
    for (state, _), after in reads.items():
        onward.setdefault(state, []).append(after)
        back.setdefault(after, []).append(state)
    begun = reached([first], onward)
    ending = reached(ends, back)
    return {place: True for place, after in reads.items() if place[0] in begun and after in ending}


def merged(first, ends, reads):
    """The parts of a reader with the same right rows and as few states as possible, where a right row has a level."""
    needed = {place: reads[place] for place in needed_reads(first, ends, reads)}
    classes = _classes(first, ends, needed)
    # The first state stays alone, as no line may lead back to it: its name is that of its class.
    names = {classes[state]: state for state in sorted(classes, reverse=True)}
    kept = {(names[classes[state]], form): names[classes[after]] for (state, form), after in needed.items()}
    return first, tuple(sorted(set([names[classes[state]] for state in ends if state in classes]))), kept


def _classes(first, ends, reads):
    """For each state of needed reads the number of its class: in one class rows can go on in the same ways."""
    states = [first] + sorted(set(list(reads.values())))
    classes = {state: _number_at_first(state, first, ends) for state in states}
    while True:
        marks = {state: (classes[state], _onward(state, classes, reads)) for state in states}
        different = sorted(set(list(marks.values())))
        if len(different) == len(set(list(classes.values()))):
            return classes
        classes = {state: different.index(marks[state]) for state in states}


def _number_at_first(state, first, ends):
    """The number of the class of a state as far as no line is looked at."""
    if state == first:
        return 0
    return 1 if state in ends else 2


def _onward(state, classes, reads):
    """The forms with which lines lead on from a state, each with the class behind it, ascending."""
    return tuple(sorted([(form, classes[after]) for (ahead, form), after in reads.items() if ahead == state]))
