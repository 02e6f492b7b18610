"""Plans that churn: they lead back, and each of their deeds touches all levels."""

from fingerbooks.base.forms import without_empty_end
from fingerbooks.base.words import is_within
from fingerbooks.book.books import DEEDS, check_book, is_put
from fingerbooks.decide.courses import DONE, Course, is_at_end
from fingerbooks.decide.plans import check_plan
from fingerbooks.decide.weights import heaviest
from fingerbooks.deeds.rows import check_right_row, levels_touched, row_if_done
from fingerbooks.errors import InvalidNumber
from fingerbooks.read.ways import reached

MAX_LEVELS = 100


def is_churning(book, plan, row):
    """Whether a plan churns in a right row."""
    check_book(book)
    check_plan(plan)
    check_right_row(book, row)
    at = row
    for deed in plan:
        at = _row_if_churned(book, at, deed)
        if at is None:
            return False
    return row != () and at == row


def _row_if_churned(book, row, deed):
    """The row behind a deed that touches all levels of a right row, None if it is not done or does not touch all."""
    if row == () and not is_put(deed):
        return None
    if not all([level in levels_touched(book, row, deed) for level in range(len(row))]):
        return None
    return row_if_done(book, row, deed)


def churn_bound(book, plan):
    """The greatest number of levels of a row in which a plan churns, None if there is none, 0 without such a row."""
    check_book(book)
    check_plan(plan)
    return _bound(book, plan)


def _bound(book, plan):
    """What churn_bound tells, for values that have been checked."""
    if not _keeps_length(plan):
        return 0
    course = _course(book, plan)
    goals = [number for number, node in enumerate(course.nodes) if is_at_end(node)]
    back = {}
    for ahead, _, behind in course.steps:
        back.setdefault(behind, []).append(ahead)
    live = reached(goals, back)
    links = {}
    for ahead, form, behind in course.steps:
        if behind in live:
            links.setdefault(ahead, []).append((_levels_read(course, ahead), behind, form))
    weights, rings = heaviest(links, [number for number in course.begun if number in live])
    if rings != []:
        return None
    return max([weights[goal] for goal in goals], default=0)


def _keeps_length(plan):
    """Whether a plan puts as many elements as it takes: otherwise it leads to another row."""
    return 2 * len([deed for deed in plan if is_put(deed)]) == len(plan)


def _course(book, plan):
    """The course of a plan as far as it may churn."""
    return Course(book, (plan,), _mark_of_churning)


def _mark_of_churning(mark, passages):
    """The mark, or None if the plan is not done, leads to another row, or has a deed that does not touch a level."""
    passage = passages[0]
    if passage.tail != DONE or passage.found[0] != passage.found[-1] or not passage.is_busy:
        return None
    return mark


def _levels_read(course, number):
    """How many levels of the old row are read by a step from a node: none behind its end."""
    return 0 if course.nodes[number][0] == "" else 1


def churning_row(book, plan, levels):
    """A row of least length with just so many levels in which a plan churns, None if there is none."""
    check_book(book)
    check_plan(plan)
    if not is_within(levels, 1, MAX_LEVELS):
        raise InvalidNumber(levels)
    if not _keeps_length(plan):
        return None
    course = _course(book, plan)
    layers = [_ends_of_old_rows(course)]
    for _ in range(levels):
        layers.append(_layer_ahead(book.arity, course, layers[-1]))
    begun = [(layers[-1][number][0], number) for number in course.begun if number in layers[-1]]
    return _row_through(layers, min(begun)[1]) if begun != [] else None


def _ends_of_old_rows(course):
    """The nodes behind the end of the old row from which an end can be reached, as a dict to the length 0."""
    back = {}
    for ahead, _, behind in course.steps:
        if _levels_read(course, ahead) == 0:
            back.setdefault(behind, []).append(ahead)
    goals = [number for number, node in enumerate(course.nodes) if is_at_end(node)]
    return {number: (0, (), ()) for number in reached(goals, back)}


def _layer_ahead(arity, course, layer):
    """For each node one level ahead of a layer: the least length from there, the form that is read, the next node."""
    found = {}
    for ahead, form, behind in course.steps:
        if behind in layer and _levels_read(course, ahead) == 1:
            length = sum(form) + arity * layer[behind][0]
            if ahead not in found or length < found[ahead][0]:
                found[ahead] = (length, form, behind)
    return found


def _row_through(layers, number):
    """The row that is read from a node of the last layer through all layers."""
    forms = []
    for layer in layers[:0:-1]:
        _, form, number = layer[number]
        forms.append(form)
    return without_empty_end(tuple(forms))


def churning_plans(book):
    """The plans of two deeds that churn in rows with any number of levels, ascending."""
    check_book(book)
    plans = sorted([(one, other) for one in DEEDS for other in DEEDS])
    return tuple([plan for plan in plans if _bound(book, plan) is None])
