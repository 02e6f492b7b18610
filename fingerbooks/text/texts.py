"""Texts of books, stands, plans and papers."""

from fingerbooks.base.forms import is_row, pair_of, read_row, text_of_row, write_pair
from fingerbooks.base.words import is_name, words_of
from fingerbooks.book.books import Book, check_book
from fingerbooks.book.pages import is_passed
from fingerbooks.decide.plans import check_plan
from fingerbooks.errors import InvalidOperation, InvalidPaper, ParseError
from fingerbooks.use.pledges import plan_of, text_of_plan

# What stands for a name that is empty.
_NO_NAME = "."
_ENDS = {"yes": True, "no": False}


def write_book(book):
    """The text of a book: its lines."""
    check_book(book)
    return "\n".join(book.lines)


def read_book(text):
    """The book with a text."""
    _check_text(text)
    lines = _lines_of(text)
    return Book.from_lines(*lines)


def _check_text(value):
    """Refuse a value that is no string."""
    if not isinstance(value, str):
        raise ParseError(None)


def _lines_of(text):
    """The lines of a text, as a list."""
    return text.split("\n")


def write_stand(stand):
    """The text of a stand, like s -1.0 m o yes."""
    if not _is_like_a_stand(stand):
        raise InvalidOperation("this has not the form of a stand")
    return _text_of_stand(stand)


def read_stand(text):
    """The stand with a text."""
    stand = _stand_of(text)
    if stand is None:
        raise ParseError(None)
    return stand


def _is_like_a_stand(value):
    """Whether the value has the form of a stand, with any names."""
    if not isinstance(value, tuple) or len(value) != 5:
        return False
    state, pair, note, new, ends = value
    if not all([_is_name_or_none(name) for name in (state, note, new)]) or not is_passed(pair):
        return False
    if not isinstance(ends, bool):
        return False
    return note != "" or (pair == (0, 0) and new == "" and not ends)


def _is_name_or_none(value):
    """Whether the value is a name or the empty string."""
    return value == "" or is_name(value)


def _text_of_stand(stand):
    """The text of what has the form of a stand."""
    state, pair, note, new, ends = stand
    words = [name if name != "" else _NO_NAME for name in (state, note, new)]
    return " ".join([words[0], write_pair(pair), words[1], words[2], "yes" if ends else "no"])


def _stand_of(text):
    """The stand with this text, None for every value that is the text of none."""
    words = words_of(text)
    if len(words) != 5 or words[4] not in _ENDS or "" in words:
        return None
    state, note, new = [word if word != _NO_NAME else "" for word in (words[0], words[2], words[3])]
    stand = (state, pair_of(words[1]), note, new, _ENDS[words[4]])
    return stand if _is_like_a_stand(stand) else None


def write_plan(plan):
    """The text of a plan, like pushl+popr."""
    check_plan(plan)
    return text_of_plan(plan)


def read_plan(text):
    """The plan with a text."""
    plan = plan_of(text) if isinstance(text, str) else None
    if plan is None:
        raise ParseError(None)
    return plan


def write_paper(paper):
    """The text of a paper: its word, and then its stands or its row, one in a line."""
    if not isinstance(paper, tuple) or len(paper) != 2:
        raise InvalidPaper("this has not the form of a paper")
    if paper[0] == "good" and _are_ascending_stands(paper[1]):
        return "\n".join(["good"] + [_text_of_stand(stand) for stand in paper[1]])
    if paper[0] == "bad" and is_row(paper[1]):
        return "\n".join(["bad", text_of_row(paper[1])])
    raise InvalidPaper("this has not the form of a paper")


def _are_ascending_stands(value):
    """Whether the value is an ascending tuple of what has the form of a stand."""
    if not isinstance(value, tuple) or not all([_is_like_a_stand(stand) for stand in value]):
        return False
    return all([value[at] < value[at + 1] for at in range(len(value) - 1)])


def read_paper(text):
    """The paper with a text."""
    _check_text(text)
    lines = _lines_of(text)
    if lines[0] == "good":
        return "good", _stands_told(lines)
    if lines[0] == "bad":
        return "bad", _row_told(lines)
    raise ParseError(0)


def _stands_told(lines):
    """The ascending stands behind the first one of some lines."""
    stands = []
    for number, line in enumerate(lines[1:], start=1):
        stand = _stand_of(line)
        if stand is None or (stands != [] and stand <= stands[-1]):
            raise ParseError(number)
        stands.append(stand)
    return tuple(stands)


def _row_told(lines):
    """The row behind the first one of two lines."""
    if len(lines) == 1:
        raise ParseError(1)
    try:
        row = read_row(lines[1])
    except ParseError:
        raise ParseError(1) from None
    if len(lines) > 2:
        raise ParseError(2)
    return row
