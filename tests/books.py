"""Books for tests: those of the document, others made by rule or by chance, and what can be told of them by trying."""

import itertools

from fingerbooks.book.books import DEEDS, Book
from fingerbooks.book.pages import Machine, Page
from fingerbooks.read.readers import Reader

PAIRS = Book.from_lines("arity 2", "first s", "ends e o", "read s 1.1 o", "read s 1.2 o", "read s 1.3 o",
    "read s 2.1 o", "read s 2.2 o", "read s 2.3 o", "read s 3.1 o", "read s 3.2 o", "read s 3.3 o", "read s 0.1 e",
    "read s 1.0 e", "read s 0.2 e", "read s 2.0 e", "read s 0.3 e", "read s 3.0 e", "read o 1.1 o", "read o 1.2 o",
    "read o 1.3 o", "read o 2.1 o", "read o 2.2 o", "read o 2.3 o", "read o 3.1 o", "read o 3.2 o", "read o 3.3 o",
    "read o 0.1 e", "read o 1.0 e", "read o 0.2 e", "read o 2.0 e", "read o 0.3 e", "read o 3.0 e", "start pushl m",
    "start pushr m", "start popl m", "start popr m", "page m inner 4.1 to 2.1 pass 1.0 then m",
    "page m inner 1.4 to 1.2 pass 0.1 then m", "page m inner 0.1 to 2.1 pass -1.0 then m",
    "page m inner 1.0 to 1.2 pass 0.-1 then m", "page m last 4.1 to 2.1 pass 1.0 then m",
    "page m last 1.4 to 1.2 pass 0.1 then m", "page m last -1.1 to 0.0 pass 0.0 then m",
    "page m last 1.-1 to 0.0 pass 0.0 then m", "page m inner 4.2 to 2.2 pass 1.0 then m",
    "page m inner 2.4 to 2.2 pass 0.1 then m", "page m inner 0.2 to 2.2 pass -1.0 then m",
    "page m inner 2.0 to 2.2 pass 0.-1 then m", "page m last 4.2 to 2.2 pass 1.0 then m",
    "page m last 2.4 to 2.2 pass 0.1 then m", "page m last -1.2 to 0.1 pass 0.0 then m",
    "page m last 2.-1 to 1.0 pass 0.0 then m", "page m inner 4.3 to 2.3 pass 1.0 then m",
    "page m inner 3.4 to 3.2 pass 0.1 then m", "page m inner 0.3 to 2.3 pass -1.0 then m",
    "page m inner 3.0 to 3.2 pass 0.-1 then m", "page m last 4.3 to 2.3 pass 1.0 then m",
    "page m last 3.4 to 3.2 pass 0.1 then m", "page m last -1.3 to 0.2 pass 0.0 then m",
    "page m last 3.-1 to 2.0 pass 0.0 then m", "page m last 4.0 to 2.2 pass 0.0 then m",
    "page m last 0.4 to 2.2 pass 0.0 then m")
TIGHT = Book.from_lines("arity 2", "first s", "ends e o", "read s 1.1 o", "read s 1.2 o", "read s 2.1 o",
    "read s 2.2 o", "read s 0.1 e", "read s 1.0 e", "read s 0.2 e", "read s 2.0 e", "read o 1.1 o", "read o 1.2 o",
    "read o 2.1 o", "read o 2.2 o", "read o 0.1 e", "read o 1.0 e", "read o 0.2 e", "read o 2.0 e", "start pushl m",
    "start pushr m", "start popl m", "start popr m", "page m inner 3.1 to 1.1 pass 1.0 then m",
    "page m inner 1.3 to 1.1 pass 0.1 then m", "page m inner 0.1 to 2.1 pass -1.0 then m",
    "page m inner 1.0 to 1.2 pass 0.-1 then m", "page m last 3.1 to 1.1 pass 1.0 then m",
    "page m last 1.3 to 1.1 pass 0.1 then m", "page m last -1.1 to 0.0 pass 0.0 then m",
    "page m last 1.-1 to 0.0 pass 0.0 then m", "page m inner 3.2 to 1.2 pass 1.0 then m",
    "page m inner 2.3 to 2.1 pass 0.1 then m", "page m inner 0.2 to 2.2 pass -1.0 then m",
    "page m inner 2.0 to 2.2 pass 0.-1 then m", "page m last 3.2 to 1.2 pass 1.0 then m",
    "page m last 2.3 to 2.1 pass 0.1 then m", "page m last -1.2 to 0.1 pass 0.0 then m",
    "page m last 2.-1 to 1.0 pass 0.0 then m", "page m last 3.0 to 1.2 pass 0.0 then m",
    "page m last 0.3 to 2.1 pass 0.0 then m")
LESS = PAIRS.without("page m last -1.1 to 0.0 pass 0.0 then m")
STARTS = {deed: "m" for deed in DEEDS}
FORMS = tuple((left, right) for left in range(8) for right in range(8))


def plain(reader, arity=2):
    """A book with a reader and without pages."""
    return Book(reader, Machine(arity, ()), STARTS)


def triples():
    """A book of arity 3 like PAIRS: each side of an inner level has one to four bundles."""
    reads = {}
    for state, form in itertools.product("so", itertools.product(range(5), range(5))):
        if form != (0, 0):
            reads[(state, form)] = "o" if min(form) > 0 else "e"
    pages = []
    for right in range(1, 5):
        for where, left, form, passed in (
            ("inner", 5, (2, right), (1, 0)), ("inner", 0, (3, right), (-1, 0)), ("last", 5, (2, right), (1, 0)),
            ("last", -1, (0, right - 1), (0, 0)),
        ):
            page = Page("m", where, (left, right), form, passed, "m")
            pages.extend([page, page.mirrored()])
    page = Page("m", "last", (5, 0), (2, 3), (0, 0), "m")
    return Book(Reader("s", ("e", "o"), reads), Machine(3, tuple(pages + [page, page.mirrored()])), STARTS)


TRIPLES = triples()


def wide():
    """A book that takes any row; at the left always two bundles are passed or fetched at once."""
    reads = {}
    for state, form in itertools.product("so", ((0, 0), (0, 1), (1, 0), (1, 1), (2, 1), (2, 2), (4, 1), (1, 4))):
        reads[(state, form)] = "i" if form == (0, 0) else "o"
        reads[("i", form)] = "i" if form == (0, 0) else "o"
    pages = (
        Page("m", "inner", (5, 1), (1, 1), (2, 0), "n"), Page("n", "inner", (6, 1), (2, 1), (2, 0), "m"),
        Page("n", "last", (4, 1), (0, 1), (1, 1), "m"), Page("m", "inner", (-1, 1), (3, 1), (-2, 0), "k"),
        Page("m", "inner", (-1, 0), (1, 2), (-1, -1), "k"), Page("k", "inner", (-1, 1), (1, 1), (-1, 0), "k"),
        Page("k", "last", (-1, 1), (0, 0), (0, 0), "m"), Page("k", "last", (-2, 2), (0, 0), (0, 0), "m"),
        Page("m", "last", (5, 1), (1, 1), (1, 1), "k"), Page("k", "inner", (0, 0), (0, 2), (0, -1), "n"),
        Page("m", "last", (-1, 1), (0, 0), (0, 0), "n"), Page("m", "last", (1, -1), (0, 0), (0, 0), "n"),
    )
    return Book(Reader("s", ("o",), reads), Machine(2, pages), STARTS)


def random_reader(rng, states, forms, density=0.7):
    """A reader by chance with some of the lines that there can be; its states that end are the last ones of these."""
    ends = tuple(sorted(states[-rng.randint(1, max(1, len(states) - 2)):]))
    reads = {}
    for state, form in itertools.product(states, forms):
        after = rng.choice(states[1:])
        if rng.random() < density and (form != (0, 0) or after not in ends):
            reads[(state, form)] = after
    return Reader(states[0], ends, reads)


def random_page(rng, arity, notes):
    """A page by chance."""
    while True:
        where, raw = rng.choice(("inner", "last")), (rng.randint(-2, 9), rng.randint(-2, 9))
        form, passed = rng.choice(FORMS), (rng.randint(-2, 2), rng.randint(-2, 2))
        if where == "inner":
            form = (raw[0] - arity * passed[0], raw[1] - arity * passed[1])
            fits = 0 <= min(form) and max(form) <= 7
        else:
            fits = min(passed) >= 0 and sum(form) + arity * sum(passed) == sum(raw)
        if fits:
            return Page(rng.choice(notes), where, raw, form, passed, rng.choice(notes))


def random_book(rng, arity, forms=FORMS, pages=30):
    """A book by chance, most of whose deeds come to pages."""
    reads = {}
    for state, form in itertools.product("sab", forms):
        after = rng.choice("ab")
        if rng.random() < 0.7 and (form != (0, 0) or after != "b"):
            reads[(state, form)] = after
    table = {}
    for _ in range(pages):
        page = random_page(rng, arity, "mnk")
        if max(page.raw) <= max(max(form) for form in forms) + 2:
            table[page.place] = page
    starts = {deed: rng.choice("mn") for deed in DEEDS}
    return Book(Reader("s", ("b",), reads), Machine(arity, tuple(table.values())), starts)


def changed_book(rng, book, many):
    """A book without some of its lines, and with some other pages."""
    for _ in range(many):
        line = rng.choice([line for line in book.lines if line.split()[0] in ("read", "page")])
        book = book.without(line)
        if rng.random() < 0.5 and len(book.machine) < 150:
            page = random_page(rng, book.arity, "mn")
            book = book.with_line(page.line)
    return book


def right_rows(reader, levels):
    """All right rows with at most so many levels, by trying."""
    found = [()]
    ahead = [((), reader.first)]
    for _ in range(levels):
        following = []
        for row, state in ahead:
            for (begun, form), after in reader.reads.items():
                if begun == state:
                    following.append((row + (form,), after))
        found.extend(row for row, state in following if state in reader.ends)
        ahead = following
    return found


def size(arity, row):
    """The number of elements of a row."""
    return sum(sum(form) * arity ** level for level, form in enumerate(row))


def content_of(arity, row, first=100):
    """As many integers as a row has elements."""
    return tuple(range(first, first + size(arity, row)))
