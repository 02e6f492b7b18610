"""How many levels deeds touch, and how far they reach."""

from fingerbooks.base.forms import without_empty_end
from fingerbooks.base.words import is_within
from fingerbooks.book.books import check_book, check_deed
from fingerbooks.decide.links import links_of, numbers_of, start_number
from fingerbooks.decide.tables import Table
from fingerbooks.decide.weights import heaviest
from fingerbooks.errors import InvalidNumber
from fingerbooks.read.ways import forms_along, reached, shortest_ways

_MAX_MANY = 100

# The node behind the innermost level that is touched; those of stands are numbers from 0 on.
_TOUCHED = -1


def most_touched(book, deed):
    """The greatest number of levels that a deed touches, None if there is none, 0 if it can be done in no right row."""
    table = Table(book, deed)
    steps = {}
    for ahead, _, _, _, is_touched, behind in links_of(table):
        steps.setdefault(ahead, []).append((int(is_touched), behind, ()))
    numbers = numbers_of(table)
    return _greatest(steps, start_number(table), [numbers[stand] for stand in table.finals])


def most_reached(book, deed):
    """The greatest number of levels that a deed reaches, None if there is none, 0 if it can be done in no right row."""
    table = Table(book, deed)
    links = links_of(table)
    back = {}
    for ahead, _, _, _, _, behind in links:
        back.setdefault(behind, []).append(ahead)
    # Only levels count that have a touched one further in, and this one itself.
    going_on = reached([link[0] for link in links if link[4]], back)
    steps = {}
    for ahead, _, _, _, is_touched, behind in links:
        if is_touched:
            steps.setdefault(ahead, []).append((1, _TOUCHED, ()))
        if behind in going_on:
            steps.setdefault(ahead, []).append((1, behind, ()))
    return _greatest(steps, start_number(table), [_TOUCHED])


def _greatest(steps, start, goals):
    """The greatest weight of a way from the start to a goal, None if there is none, 0 if there is no way."""
    weights, rings = heaviest(steps, [start])
    if rings != []:
        return None
    return max([weights[goal] for goal in goals if goal in weights], default=0)


def least_length_for(book, deed, many):
    """The least length of a right row in which a deed touches at least so many levels, None if there is none."""
    ways, start = _ways_touching(book, deed, many)
    return ways[start][0] if start in ways else None


def busy_row(book, deed, many):
    """A right row of least length in which a deed touches at least so many levels, None if there is none."""
    ways, start = _ways_touching(book, deed, many)
    # The forms of new levels stand behind those of the row.
    return without_empty_end(forms_along(ways, start)) if start in ways else None


def _ways_touching(book, deed, many):
    """The shortest ways on which so many levels are touched, and the node with which they begin."""
    check_book(book)
    check_deed(deed)
    if not is_within(many, 0, _MAX_MANY):
        raise InvalidNumber(many)
    table = Table(book, deed)
    size = len(table)
    lines = []
    # A node is a stand and how many levels are still to be touched.
    for (ahead, is_touched, behind), form in _least_forms(links_of(table)).items():
        for left in range(many + 1):
            left_behind = max(0, left - int(is_touched))
            lines.append((left * size + ahead, form, left_behind * size + behind))
    numbers = numbers_of(table)
    goals = {numbers[stand]: True for stand in table.finals}
    return shortest_ways(book.arity, lines, goals), many * size + start_number(table)


def _least_forms(links):
    """The form of fewest bundles for each pair of stands and whether the level is touched."""
    forms = {}
    for ahead, _, form, _, is_touched, behind in links:
        key = (ahead, is_touched, behind)
        if key not in forms or sum(form) < sum(forms[key]):
            forms[key] = form
    return forms
