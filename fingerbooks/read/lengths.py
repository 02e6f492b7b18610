"""The lengths of right rows, as a reader tells them."""

from fingerbooks.errors import TooMany
from fingerbooks.read.ways import shortest_ways

MAX_SETS = 20000

# No carry is greater: a level has at most 14 bundles, and half of 14 and 14 is 14 again.
_CARRIES = 15
# The member that tells that the row has ended and nothing is carried on is the first one.
_EMPTY_REST = 1


def extreme_length(arity, reader, levels, greatest):
    """The greatest or the least length of a right row with so many levels, None if there is none."""
    if levels == 0:
        return 0
    found = {state: 0 for state in reader.ends}
    for _ in range(levels):
        found = _with_level_ahead(arity, reader, found, greatest)
    return found.get(reader.first)


def _with_level_ahead(arity, reader, found, greatest):
    """The extreme lengths of what follows the states, if it begins one level further out."""
    ahead = {}
    for state in reader.states:
        lengths = [sum(form) + arity * found[after] for form, after in reader.onward(state) if after in found]
        if lengths != []:
            ahead[state] = max(lengths) if greatest else min(lengths)
    return ahead


def least_missing(arity, reader):
    """The least length that no right row has, None if there is none."""
    # A length is read figure by figure, the lowest one first. The states that are possible behind figures, each with
    # what is carried on, are the members of a set, which is an integer with a bit for each of them. A length is missing
    # if its figures lead to a set without the empty rest.
    members, images = _members_and_images(arity, reader)
    start = _EMPTY_REST | (1 << members[(reader.first, 0)])
    lines = []
    known = {start: True}
    layer = [start]
    while layer != []:
        goals = [held for held in layer if held & _EMPTY_REST == 0]
        if goals != []:
            return shortest_ways(arity, lines, goals)[start][0]
        following = []
        for held in list(layer):
            for figure in range(arity):
                other = _image(held, images[figure])
                lines.append((held, (figure, 0), other))
                if other not in known:
                    known[other] = True
                    following.append(other)
        if len(known) > MAX_SETS:
            raise TooMany(MAX_SETS)
        layer = following
    return None


def _members_and_images(arity, reader):
    """The numbers of the members, and for each figure and member the set of those that are possible behind them."""
    options = _options(reader)
    members = _members(sorted(options))
    images = []
    for figure in range(arity):
        images.append([_set_behind(arity, members, options[state], carry - figure) for state, carry in members])
    return members, images


def _members(states):
    """The numbers of the members: of each state with each carry."""
    members = {}
    for state in states:
        for carry in range(_CARRIES):
            members[(state, carry)] = len(members)
    return members


def _options(reader):
    """For each state the pairs of a number of bundles and the state behind them, which is empty if the row ends."""
    options = {state: [] for state in reader.states}
    spare = {place: True for place in reader.spare}
    for (state, form), after in reader.reads.items():
        if (state, form) not in spare:
            options[state].append((sum(form), after))
            if after in reader.ends:
                options[state].append((sum(form), ""))
    # The empty string is the first key in order.
    options[""] = [(0, "")]
    return options


def _set_behind(arity, members, options, offset):
    """The set of the members behind one: the bundles must make up for the offset, up to a multiple of the arity."""
    found = 0
    for many, after in options:
        if (many + offset) % arity == 0:
            found = found | (1 << members[(after, (many + offset) // arity)])
    return found


def _image(held, images):
    """The set of all members that are possible behind those of a set."""
    found = 0
    while held > 0:
        lowest = held & -held
        found = found | images[lowest.bit_length() - 1]
        held = held - lowest
    return found
