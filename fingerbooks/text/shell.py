"""A shell: lines of text that work on a bench and on a sequence over its book."""

from fingerbooks.base.forms import read_row, text_of_row
from fingerbooks.base.words import integer_of
from fingerbooks.book.books import is_deed
from fingerbooks.decide.papers import is_good, paper
from fingerbooks.decide.tables import Table
from fingerbooks.deeds.rows import broken_at, new_row, touched
from fingerbooks.errors import (
    Broken, EmptySequence, InvalidBook, InvalidNumber, InvalidOperation, InvalidPage, InvalidReader, InvalidRow,
    NothingToUndo, ParseError, Refused, TooMany, UnknownName,
)
from fingerbooks.seq.places import place_of
from fingerbooks.seq.sequences import Sequence
from fingerbooks.text.texts import read_book
from fingerbooks.use.bench import Bench
from fingerbooks.use.pledges import pledge_of, text_of_pledge

# What stands behind the first word of a command.
_ARGUMENTS = {
    "draw": "line", "erase": "line", "demand": "pledge", "waive": "pledge", "undo": "", "redo": "", "lines": "",
    "pledges": "", "good": "deed", "table": "deed", "paper": "deed", "do": "deed in row", "touched": "deed in row",
    "pushl": "integer", "pushr": "integer", "popl": "", "popr": "", "clear": "", "content": "", "at": "count",
    "place": "count",
}
_CHANGES = ("draw", "erase", "demand", "waive", "undo", "redo")
_DEEDS = ("pushl", "pushr", "popl", "popr", "clear")
_QUESTIONS = ("content", "at", "place")


class Shell:
    """A bench and a sequence over its book, which is empty at first, and commands for both."""

    def __init__(self, text):
        self._bench = Bench(read_book(text))
        self._sequence = Sequence(self._bench.book)
        self._answered = 0

    def __call__(self, line):
        return self.answer(line)

    def answer(self, line):
        """The answer to a command, or a word for the error that it makes."""
        command = _command_of(line)
        if command is None:
            return "what"
        try:
            told = self._told(command[0], command[1])
        except InvalidReader:
            return "reader"
        except InvalidPage:
            return "page"
        except InvalidBook:
            return "book"
        except InvalidRow:
            return "row"
        except InvalidOperation:
            return "operation"
        except UnknownName:
            return "unknown"
        except ParseError:
            return "line"
        except EmptySequence:
            return "empty"
        except InvalidNumber:
            return "number"
        except TooMany as too_many:
            return f"many {too_many.limit}"
        except NothingToUndo:
            return "undo"
        except Refused as refusal:
            return f"refused {text_of_pledge(refusal.pledge)}"
        except Broken as failure:
            return f"broken {text_of_row(failure.row)}"
        self._answered += 1
        return told

    def _told(self, word, given):
        """What a command does, as a text."""
        if word in _CHANGES:
            return self._told_of_change(word, given)
        if word in _DEEDS:
            self._sequence = _sequence_behind(self._sequence, word, given)
            return text_of_row(self._sequence.outline)
        if word in _QUESTIONS:
            return _told_of_sequence(self._sequence, word, given)
        return _told_of_bench(self._bench, word, given)

    def _told_of_change(self, word, given):
        """The news of a change of the bench, as a text; a sequence over another book is empty again."""
        before = self._bench.book
        news = _news_of(self._bench, word, given)
        if self._bench.book != before:
            self._sequence = Sequence(self._bench.book)
        told = [deed + (" good" if is_good_now else " bad") for deed, is_good_now in news]
        return _joined(told, ", ")

    def bench(self):
        """A twin of the bench."""
        return self._bench.twin()

    def sequence(self):
        """The sequence."""
        return self._sequence

    def __len__(self):
        return len(range(self._answered))


def _command_of(line):
    """The first word of a command and what stands behind it, None for every value that is no command."""
    if not isinstance(line, str):
        return None
    word, blank, rest = line.partition(" ")
    if word not in _ARGUMENTS:
        return None
    kind = _ARGUMENTS[word]
    if kind == "":
        return (word, ()) if blank == "" else None
    given = _given(kind, rest) if blank != "" else None
    return None if given is None else (word, given)


def _given(kind, text):
    """What a text of a kind stands for, None if it is none of this kind."""
    if kind == "line":
        return text
    if kind == "pledge":
        return pledge_of(text)
    if kind == "deed":
        return text if is_deed(text) else None
    if kind == "deed in row":
        deed, _, rest = text.partition(" in ")
        row = _row_of(rest)
        return (deed, row) if is_deed(deed) and row is not None else None
    number = integer_of(text)
    return None if number is None or (kind == "count" and number < 0) else number


def _row_of(text):
    """The row with this text, None if there is none."""
    try:
        return read_row(text)
    except ParseError:
        return None


def _joined(told, between):
    """Several texts as one, or that there are none."""
    return between.join(told) if told != [] else "nothing"


def _news_of(bench, word, given):
    """The news of a change of a bench."""
    match word:
        case "draw":
            return bench.draw(given)
        case "erase":
            return bench.erase(given)
        case "demand":
            return bench.demand(given)
        case "waive":
            return bench.waive(given)
        case "undo":
            return bench.undo()
        case _:
            return bench.redo()


def _sequence_behind(sequence, word, given):
    """The sequence behind a deed, or the empty one."""
    match word:
        case "pushl":
            return sequence.pushl(given)
        case "pushr":
            return sequence.pushr(given)
        case "popl":
            return sequence.popl()
        case "popr":
            return sequence.popr()
        case _:
            return Sequence(sequence.book)


def _told_of_sequence(sequence, word, given):
    """The elements of a sequence, one of them, or its place, as a text."""
    if word == "content":
        return _joined([str(element) for element in sequence], " ")
    if word == "at":
        return str(sequence[given])
    level, side, index, path = place_of(sequence.book.arity, sequence.outline, given)
    return " ".join([str(level), side, str(index)] + [str(part) for part in path])


def _told_of_bench(bench, word, given):
    """What is asked of the book of a bench or of its pledges, as a text."""
    book = bench.book
    match word:
        case "lines":
            return _joined(list(book.lines), "; ")
        case "pledges":
            return _joined([text_of_pledge(pledge) for pledge in bench.pledges], "; ")
        case "good":
            return "yes" if is_good(book, given) else "no"
        case "table":
            return str(Table(book, given))
        case "paper":
            return _told_of_paper(paper(book, given))
        case "touched":
            return " ".join([str(level) for level in touched(book, given[1], given[0])])
        case _:
            return _told_of_deed(book, given[0], given[1])


def _told_of_paper(found):
    """The word of a paper, and the row of a bad one."""
    return "good" if found[0] == "good" else "bad; " + text_of_row(found[1])


def _told_of_deed(book, deed, row):
    """The new row of a deed, or where it breaks."""
    new = new_row(book, row, deed)
    return f"breaks at {broken_at(book, row, deed)}" if new is None else text_of_row(new)
