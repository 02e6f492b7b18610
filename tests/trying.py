"""What deeds and plans do, told by doing them in many right rows, for tests of what is decided for all of them."""

import random

from fingerbooks.base.forms import trimmed
from fingerbooks.book.books import DEEDS, Book
from fingerbooks.book.pages import Machine, Page
from fingerbooks.read.readers import Reader
from tests.books import FORMS, LESS, PAIRS, TIGHT, TRIPLES, changed_book, plain, random_book, size, wide

PAIR_OF = {"pushl": (1, 0), "pushr": (0, 1), "popl": (-1, 0), "popr": (0, -1)}
LOOSE = PAIRS.without("page m inner 0.2 to 2.2 pass -1.0 then m")
# Every form is right that PAIRS could have, and nothing goes inward, so deeds touch level 0 alone, and fail at its end.
FLAT = Book.from_lines(
    "arity 2", "first s", "ends o", "read s 0.1 o", "read s 1.0 o", "read s 1.1 o", "start pushl m", "start pushr m",
    "start popl m", "start popr m",
)
# The only right row is the empty one.
EMPTY = plain(Reader("s", ("e",), {("s", (1, 1)): "o", ("o", (1, 1)): "o"}))


def loose_book(rng, arity, greatest=2, pages=80):
    """A book by chance that takes nearly all rows of small forms, which become shorter and longer in many ways."""
    forms = [(left, right) for left in range(greatest + 1) for right in range(greatest + 1)]
    reads = {}
    for state in "szb":
        for form in forms:
            if rng.random() < 0.93:
                reads[(state, form)] = "z" if form == (0, 0) else "b"
    table = {}
    for _ in range(pages):
        where = rng.choice(("inner", "inner", "last"))
        raw = (rng.randint(-2, greatest + 2), rng.randint(-2, greatest + 2))
        fits = []
        for form in forms:
            for passed in [(left, right) for left in range(-2, 3) for right in range(-2, 3)]:
                if where == "inner":
                    right = form == (raw[0] - arity * passed[0], raw[1] - arity * passed[1])
                else:
                    right = min(passed) >= 0 and sum(form) + arity * sum(passed) == sum(raw)
                if right and raw != form:
                    fits.append((form, passed))
        if fits:
            note, (form, passed) = rng.choice("mn"), rng.choice(fits)
            table[(note, where, raw)] = Page(note, where, raw, form, passed, rng.choice("mn"))
    starts = {deed: rng.choice("mn") for deed in DEEDS}
    return Book(Reader("s", ("b",), reads), Machine(arity, tuple(table.values())), starts)


def taking_book(rng):
    """A book by chance of few forms whose takes fetch more than there often is."""
    arity = rng.choice((2, 2, 3))
    great = [(left, right) for left in range(5) for right in range(3) if left + right > 1]
    forms = [(0, 0), (0, 1), (1, 0)] + rng.sample(great, rng.choice((1, 2)))
    reads = {}
    for state in "soz":
        for form in forms:
            if rng.random() < 0.6:
                reads[(state, form)] = "z" if form == (0, 0) else "o"
    fetched = [(left, right) for left in range(-2, 1) for right in range(-2, 1)]
    table = {}
    for _ in range(60):
        (left, right), (x, y) = rng.choice(forms), rng.choice(((-1, 0), (0, -1)))
        raw, where = (left + x, right + y), rng.choice(("inner", "last"))
        fits = [(form, (0, 0)) for form in forms if sum(form) == sum(raw)]
        if where == "inner":
            fits = [
                (form, passed) for form in forms for passed in fetched
                if form == (raw[0] - arity * passed[0], raw[1] - arity * passed[1])
            ]
        if min(raw) < 0 and fits:
            note, (form, passed) = rng.choice("mn"), rng.choice(fits)
            table[(note, where, raw)] = Page(note, where, raw, form, passed, rng.choice("mn"))
    starts = {deed: rng.choice("mn") for deed in DEEDS}
    return Book(Reader("s", ("o",), reads), Machine(arity, tuple(table.values())), starts)


def some_books(seed, many=10):
    """Books by rule and by chance."""
    rng = random.Random(seed)
    found = [PAIRS, TIGHT, LESS, LOOSE, TRIPLES, wide(), wide().mirrored(), FLAT, EMPTY]
    found += [changed_book(rng, rng.choice((PAIRS, TIGHT, TRIPLES, wide())), rng.randint(1, 6)) for _ in range(many)]
    found += [random_book(rng, rng.choice((2, 3)), rng.sample(FORMS[:3] + FORMS[8:11], 4), 150) for _ in range(many)]
    return found + [loose_book(rng, rng.choice((2, 3))) for _ in range(many)]


def rows_up_to(book, most, many=1000):
    """Right rows with at most so many elements, shortest ones first: all of them, or so many."""
    found = [()]
    waiting = [((), book.reader.first, 0, 1)]
    while waiting:
        row, state, length, weight = waiting.pop()
        for form, after in book.reader.onward(state):
            longer = length + sum(form) * weight
            if longer <= most and len(row) < 8:
                if after in book.reader.ends:
                    found.append(row + (form,))
                if longer + weight * book.arity <= most:
                    waiting.append((row + (form,), after, longer, weight * book.arity))
    return sorted(found, key=lambda row: size(book.arity, row))[:many]


def stands_along(book, row, deed):
    """The stands of a deed in a row, told from what the machine does as [0.17] tells it."""
    done = book.machine.run(book.starts[deed], PAIR_OF[deed], row)[1]
    found = [(book.reader.first, PAIR_OF[deed], book.starts[deed], book.reader.first, True)]
    forms = ()
    for level in range(max(len(row), len(done))):
        state = book.reader.behind(row[:level + 1]) if level + 1 < len(row) else ""
        if level < len(done) and done[level][2] is not None:
            form, pair, note = done[level][2]
            forms += (form,)
            found.append((state, pair, note, book.reader.behind(forms), book.is_right(trimmed(forms))))
        else:
            found.append((state, (0, 0), "", "", False))
    return found


def can_be_done(row, deed):
    return row != () or deed.startswith("push")


def deed_done(book, row, deed):
    """The new row of a deed in a right row, None if it breaks, and the levels that it touches."""
    new, steps = book.machine.run(book.starts[deed], PAIR_OF[deed], row)
    touched = []
    for level, (_, raw, result) in enumerate(steps):
        old = row[level] if level < len(row) else (0, 0)
        if raw != old or result is None or result[0] != old:
            touched.append(level)
    return new, touched


def outcome(book, plan, row):
    """How a plan ends in a right row: with a word, and with the row to which it leads if it is done."""
    for deed in plan:
        if not can_be_done(row, deed):
            return "stopped", None
        row = deed_done(book, row, deed)[0]
        if row is None or not book.is_right(row):
            return "failed", None
    return "done", row


def churns(book, plan, row):
    """Whether a plan churns in a right row."""
    at = row
    for deed in plan:
        if not can_be_done(at, deed):
            return False
        new, touched = deed_done(book, at, deed)
        if new is None or not book.is_right(new) or not set(range(len(at))) <= set(touched):
            return False
        at = new
    return row != () and at == row


def check_least(test, book, found, is_one, rows):
    """A row that is found is right, is one, and is as short as possible; None is found if there is none."""
    if found is not None:
        test.assertIs(type(found), tuple)
        test.assertTrue(book.is_right(found), found)
        test.assertTrue(is_one(found), found)
        rows = [row for row in rows if size(book.arity, row) < size(book.arity, found)]
    for row in rows:
        test.assertFalse(is_one(row), (row, found))
