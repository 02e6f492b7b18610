"""Lines in any order, and what those of a reader tell."""

from fingerbooks.base.forms import is_form, pair_of
from fingerbooks.base.words import is_name, words_of
from fingerbooks.errors import ParseError


def gathered(lines, told_by):
    """What lines tell, by what they tell it of; told_by gives the pair of these two for a line, None for no line."""
    found = {}
    for index, line in enumerate(lines):
        told = told_by(line)
        if told is None or told[0] in found:
            raise ParseError(index)
        found[told[0]] = told[1]
    return found


def told_by_reader_line(line):
    """What a line of a reader is about, and what it tells of this; None for every value that is no such line."""
    words = words_of(line)
    if words[:1] == ("first",) and len(words) == 2 and is_name(words[1]):
        return ("first",), words[1]
    if words[:1] == ("ends",) and are_ascending_names(words[1:]):
        return ("ends",), words[1:]
    if words[:1] == ("read",) and len(words) == 4:
        return _told_by_read(words[1], pair_of(words[2]), words[3])
    return None


def _told_by_read(state, form, after):
    """What a line tells that reads a form in a state, None if there is no such line."""
    if not is_name(state) or not is_form(form) or not is_name(after):
        return None
    return ("read", state, form), after


def are_ascending_names(value):
    """Whether the value is an ascending tuple of names, at least one."""
    if not isinstance(value, tuple) or value == () or not all([is_name(name) for name in value]):
        return False
    return all([value[at] < value[at + 1] for at in range(len(value) - 1)])
