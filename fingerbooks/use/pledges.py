"""Pledges: what must hold of a book as long as it is worked on."""

from fingerbooks.base.words import integer_of, is_count, words_of
from fingerbooks.book.books import is_deed
from fingerbooks.decide.churn import churn_bound
from fingerbooks.decide.levels import most_touched
from fingerbooks.decide.papers import is_good
from fingerbooks.decide.plans import is_plan, leads_back


def is_pledge(value):
    """Whether the value is a pledge."""
    if not isinstance(value, tuple) or len(value) not in (2, 3):
        return False
    if value[0] == "levels":
        return len(value) == 3 and is_deed(value[1]) and is_count(value[2])
    if len(value) == 3:
        return False
    if value[0] == "good":
        return is_deed(value[1])
    return value[0] in ("back", "calm") and is_plan(value[1])


def holds(book, pledge):
    """Whether a pledge holds of a book."""
    if pledge[0] == "good":
        return is_good(book, pledge[1])
    if pledge[0] == "back":
        return leads_back(book, pledge[1])
    if pledge[0] == "calm":
        return churn_bound(book, pledge[1]) is not None
    most = most_touched(book, pledge[1])
    return most is not None and most <= pledge[2]


def text_of_plan(plan):
    """The text of a plan."""
    return "+".join(plan)


def plan_of(text):
    """The plan with this text, None if the string is the text of none."""
    plan = tuple(text.split("+"))
    return plan if is_plan(plan) else None


def text_of_pledge(pledge):
    """The text of a pledge."""
    if pledge[0] == "good":
        return f"good {pledge[1]}"
    if pledge[0] == "levels":
        return f"levels {pledge[1]} {pledge[2]}"
    return f"{pledge[0]} {text_of_plan(pledge[1])}"


def pledge_of(text):
    """The pledge with this text, None for every value that is the text of none."""
    words = words_of(text)
    if len(words) == 3:
        pledge = (words[0], words[1], integer_of(words[2]))
    elif words[:1] in (("back",), ("calm",)) and len(words) == 2:
        pledge = (words[0], plan_of(words[1]))
    else:
        pledge = words
    # What is the text of no integer or plan has become None, which no pledge has.
    return pledge if is_pledge(pledge) else None
