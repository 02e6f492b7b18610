"""Plans: deeds one behind the other, and what they do in all right rows."""

from fingerbooks.base.forms import without_empty_end
from fingerbooks.book.books import check_book, is_deed
from fingerbooks.decide.courses import DONE, Course, has_failed, is_at_end
from fingerbooks.errors import InvalidOperation
from fingerbooks.read.ways import forms_along, shortest_ways

MAX_PLAN = 4


def is_plan(value):
    """Whether the value is a tuple of one to four deeds."""
    return isinstance(value, tuple) and 0 < len(value) <= MAX_PLAN and all([is_deed(deed) for deed in value])


def check_plan(value):
    """Refuse a value that is no plan."""
    if not is_plan(value):
        raise InvalidOperation("a plan is a tuple of one to four deeds")


def are_alike(book, one, other):
    """Whether in each right row both plans are done and lead to the same row, or neither is done."""
    return unlike_row(book, one, other) is None


def unlike_row(book, one, other):
    """A right row of least length that shows that two plans are not alike, None if they are."""
    check_book(book)
    check_plan(one)
    check_plan(other)
    return _least_row(book, (one, other), _mark_of_both, _are_unlike)


def _mark_of_both(mark, passages):
    """Whether the rows of two plans differ as far as both are done, None if neither is."""
    if passages[0].tail != DONE and passages[1].tail != DONE:
        return None
    if passages[0].tail != DONE or passages[1].tail != DONE:
        return False
    return mark or passages[0].found[-1] != passages[1].found[-1]


def _are_unlike(node):
    """Whether of two plans one is done and the other is not, or their rows differ."""
    _, _, runs, mark = node
    return mark or runs[0][0] != DONE or runs[1][0] != DONE


def leads_back(book, plan):
    """Whether a plan leads to another row in no right row."""
    return straying_row(book, plan) is None


def straying_row(book, plan):
    """A right row of least length in which a plan is done and leads to another row, None if there is none."""
    check_book(book)
    check_plan(plan)
    return _least_row(book, (plan,), _mark_of_straying, _has_strayed)


def _mark_of_straying(mark, passages):
    """Whether the row behind a plan differs from the old one, None if the plan is not done."""
    if passages[0].tail != DONE:
        return None
    return mark or passages[0].found[0] != passages[0].found[-1]


def _has_strayed(node):
    """Whether the row behind a plan differs from the old one."""
    return node[3]


def failing_row(book, plan):
    """A right row of least length in which a deed of a plan fails behind those that are done, None if there is none."""
    check_book(book)
    check_plan(plan)
    return _least_row(book, (plan,), _no_mark, _has_failed)


def _no_mark(mark, passages):
    """The mark, as there is nothing to keep in mind."""
    return mark


def _has_failed(node):
    """Whether a deed of a plan fails."""
    return has_failed(node[2][0])


def _least_row(book, plans, mark_behind, is_goal):
    """A right row of least length that leads plans to an end that is a goal, None if there is none."""
    course = Course(book, plans, mark_behind)
    goals = {number: True for number, node in enumerate(course.nodes) if is_at_end(node) and is_goal(node)}
    ways = shortest_ways(book.arity, course.steps, goals)
    begun = [(ways[number][0], number) for number in course.begun if number in ways]
    # The (0, 0) behind the end of the row are those of new levels.
    return without_empty_end(forms_along(ways, min(begun)[1])) if begun != [] else None
