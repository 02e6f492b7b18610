"""Promise 5.1 and the interface of fingerbooks.book.books."""

import itertools
import random
import unittest

from fingerbooks.book import books
from fingerbooks.book.books import Book
from fingerbooks.book.pages import Machine, Page
from fingerbooks.errors import (
    InvalidBook, InvalidOperation, InvalidPage, InvalidReader, ParseError, UnknownName,
)
from fingerbooks.read.readers import Reader
from tests.books import FORMS, LESS, PAIRS, STARTS, TIGHT, TRIPLES, changed_book, plain, random_book, right_rows, wide
from tests.checks import check_first_error, check_raises
from tests.values import odd_values

DEEDS = ("pushl", "pushr", "popl", "popr")
PAGE = "page m inner 4.1 to 2.1 pass 1.0 then n"
SMALL = (
    "arity 2", "first s", "ends e o", "read o 0.0 x", "read s 1.1 o", "start pushl a", "start pushr b", "start popl m",
    "start popr c", PAGE, "page n last 4.0 to 2.2 pass 0.0 then m",
)
NO_LINES = (
    "", " ", "arity", "arity 1", "arity 4", "arity 02", "arity 2 ", "arity  2", "arity -2", "arity two", "Arity 2",
    "arity 2.0",
    "arity 2 3", "arity 2\n", "start", "start pushl", "start pushl ", "start pushl M", "start pushl m m",
    "start pushl  m",
    "start push m", "start Pushl m", "start m pushl", "start pushl ninechars", "start pushl 1", "start popm m",
    "startpushl m", "Start pushl m", "begin pushl m", "page pushl m",
    "first", "first S", "ends", "ends o e", "ends e e", "read s 8.1 o", "read s 1.1", "read s 1.1 o o", "page",
    PAGE + " ", PAGE[:-2], PAGE.replace("2.1", "2.2"), PAGE.replace("inner", "new"), PAGE.replace("4.1", "10.1"), "x",
    "m", "pushl m",
    "book of arity 2, 3 states, 26 pages", "good popl", "\n".join(SMALL), SMALL[0] + " " + SMALL[1],
)


def lines_that_make(many, line):
    return [line.format(note, left, right) for note in "abc" for left in range(8) for right in range(8)][1:many + 1]


class Interface(unittest.TestCase):
    def test_constants(self):
        self.assertEqual(books.DEEDS, DEEDS)

    def test_all_is_defined_here(self):
        self.assertEqual(Book.__module__, "fingerbooks.book.books")
        for name in ("reader", "machine", "arity", "starts", "lines"):
            self.assertIsInstance(vars(Book)[name], property)
        for name in (
            "from_lines", "is_right", "mirrored", "with_line", "without", "renamed", "__contains__", "__len__",
            "__iter__",
            "__eq__", "__str__",
        ):
            self.assertIn(name, vars(Book))


class Making(unittest.TestCase):
    def test_parts(self):
        starts = {"popr": "c", "popl": "m", "pushr": "b", "pushl": "a"}
        book = Book(PAIRS.reader, TIGHT.machine, starts)
        self.assertEqual((book.reader, book.machine, book.arity), (PAIRS.reader, TIGHT.machine, 2))
        self.assertEqual(list(book.starts.items()), [("pushl", "a"), ("pushr", "b"), ("popl", "m"), ("popr", "c")])
        self.assertEqual(plain(PAIRS.reader, 3).arity, 3)
        self.assertEqual(list(starts), ["popr", "popl", "pushr", "pushl"])

    def test_shares_no_state_and_never_changes(self):
        starts = dict(STARTS)
        book = Book(PAIRS.reader, PAIRS.machine, starts)
        starts["pushl"] = "x"
        book.starts["pushr"] = "y"
        book.starts.clear()
        self.assertEqual((book.starts, book), (STARTS, PAIRS))
        for name in ("reader", "machine", "arity", "starts", "lines"):
            with self.assertRaises(AttributeError):
                setattr(book, name, None)

    def test_wrong_values(self):
        no_readers = [(value, InvalidReader) for value in (None, PAIRS, PAIRS.machine, 1, "s", PAIRS.reader.lines)]
        no_machines = [(value, InvalidPage) for value in (None, PAIRS, PAIRS.reader, PAIRS.machine.pages, 2, ())]
        no_starts = [(value, InvalidOperation) for value in (
            None, {}, DEEDS, "m", {deed: "m" for deed in DEEDS[:3]}, STARTS | {"push": "m"}, STARTS | {"popl": "M"},
            STARTS | {"popr": None}, STARTS | {"pushl": ""}, STARTS | {"pushr": ("m",)}, STARTS | {"pushr": ["m"]},
            ["m"] * 4,
            {"pushl": "m", "pushr": "m", "popl": "m", "popm": "m"}, STARTS | {1: "m"}, (("pushl", "m"),),
            list(STARTS.items()),
        )]
        check_first_error(
            self, Book, (PAIRS.reader, PAIRS.machine, STARTS), (no_readers, no_machines, no_starts),
        )

    def test_values_of_every_kind(self):
        for value in odd_values():
            with self.subTest(value=value):
                if not isinstance(value, Reader):
                    check_raises(self, InvalidReader, lambda: Book(value, PAIRS.machine, STARTS))
                if not isinstance(value, Machine):
                    check_raises(self, InvalidPage, lambda: Book(PAIRS.reader, value, STARTS))
                check_raises(self, InvalidOperation, lambda: Book(PAIRS.reader, PAIRS.machine, value))
                if value not in ("a", "abcdefgh"):
                    check_raises(
                        self, InvalidOperation, lambda: Book(PAIRS.reader, PAIRS.machine, STARTS | {"popl": value}),
                    )


class Lines(unittest.TestCase):
    def test_order(self):
        book = Book.from_lines(*SMALL[::-1])
        self.assertEqual(book.lines, SMALL)
        self.assertEqual(book.lines[1:5], book.reader.lines)
        self.assertEqual(book.lines[9:], tuple(page.line for page in book.machine.pages))
        self.assertEqual((book.starts["pushr"], book.machine["m", "inner", (4, 1)].after), ("b", "n"))

    def test_in_any_order(self):
        for seed in range(40):
            lines = list(PAIRS.lines)
            random.Random(seed).shuffle(lines)
            self.assertEqual(Book.from_lines(*lines).lines, PAIRS.lines)

    def test_there_and_back(self):
        rng = random.Random(1)
        for _ in range(40):
            book = random_book(rng, rng.choice((2, 3)), FORMS[:3] + FORMS[8:11])
            again = Book.from_lines(*book.lines)
            self.assertEqual((again, again.lines), (book, book.lines))
            self.assertEqual((again.reader, again.machine, again.starts), (book.reader, book.machine, book.starts))

    def test_values_that_are_no_lines(self):
        for line in NO_LINES:
            with self.subTest(line=line):
                self.assert_line_is_none(line)

    def test_values_of_every_kind(self):
        for value in odd_values() + [SMALL, list(SMALL), PAGE.split(), Page.from_line(PAGE)]:
            with self.subTest(value=value):
                self.assert_line_is_none(value)

    def assert_line_is_none(self, value):
        check_raises(self, ParseError, lambda: Book.from_lines(value), 0)
        check_raises(self, ParseError, lambda: Book.from_lines(*SMALL, value), len(SMALL))
        check_raises(self, ParseError, lambda: Book.from_lines(*SMALL[:4], value, value, *SMALL), 4)
        check_raises(self, ParseError, lambda: PAIRS.with_line(value), None)

    def test_second_lines(self):
        for line in SMALL:
            for place in range(len(SMALL) + 1):
                mixed = list(SMALL)
                mixed.insert(place, line)
                second = [at for at, other in enumerate(mixed) if other == line][1]
                check_raises(self, ParseError, lambda: Book.from_lines(*mixed, "x"), second)
        for other in (
            "arity 3", "first t", "ends z", "read s 1.1 x", "start popl z", "page m inner 4.1 to 4.1 pass 0.0 then z",
            "page n last 4.0 to 4.0 pass 0.0 then z",
        ):
            check_raises(self, ParseError, lambda: Book.from_lines(*SMALL, other), len(SMALL))
        for other in ("read s 1.2 x", "read x 1.1 e", PAGE.replace("inner", "last"), PAGE.replace("page m", "page a")):
            self.assertEqual(len(Book.from_lines(*SMALL, other)), len(SMALL) + 1)

    def test_missing_lines(self):
        for at, line in enumerate(SMALL):
            lines = SMALL[:at] + SMALL[at + 1:]
            word = line.split()[0]
            if word in ("arity", "start"):
                check_raises(self, InvalidBook, lambda: Book.from_lines(*lines))
            elif word in ("first", "ends"):
                check_raises(self, InvalidReader, lambda: Book.from_lines(*lines))
            else:
                self.assertEqual(Book.from_lines(*lines).lines, lines)
        check_raises(self, InvalidBook, lambda: Book.from_lines())

    def test_first_error(self):
        bad_reader, bad_page, no_line = "first e", PAGE.replace("4.1 to 2.1", "4.1 to 1.1"), "x"
        lines = ("ends e",) + SMALL[3:9] + (bad_page,)
        check_raises(self, ParseError, lambda: Book.from_lines(bad_reader, *lines, no_line), 9)
        check_raises(self, InvalidBook, lambda: Book.from_lines(bad_reader, *lines))
        check_raises(self, InvalidReader, lambda: Book.from_lines("arity 2", bad_reader, *lines))
        check_raises(self, InvalidReader, lambda: Book.from_lines("arity 2", *lines))
        check_raises(self, InvalidPage, lambda: Book.from_lines("arity 2", "first s", *lines))
        self.assertEqual(Book.from_lines("arity 3", "first s", *lines).arity, 3)

    def test_sixty_reads_and_150_pages_at_most(self):
        head = ("arity 2", "first s", "ends z") + SMALL[5:9]
        reads = [f"read a {left}.{right} z" for left, right in FORMS[1:]]
        pages = lines_that_make(170, "page {0} last {1}.{2} to {1}.{2} pass 0.0 then m")
        self.assertEqual(str(Book.from_lines(*head, *reads[:60], *pages[:150])), "book of arity 2, 3 states, 150 pages")
        check_raises(self, InvalidReader, lambda: Book.from_lines(*head, *reads[:61], *pages[:151]))
        check_raises(self, InvalidPage, lambda: Book.from_lines(*head, *reads[:60], *pages[:151]))
        full = Book.from_lines(*head, *reads[:60], *pages[:150])
        check_raises(self, InvalidReader, lambda: full.with_line(reads[60]))
        check_raises(self, InvalidPage, lambda: full.with_line(pages[150]))
        self.assertEqual(full.with_line(reads[59].replace("z", "y")).reader.states, ("a", "s", "y", "z"))
        self.assertEqual(len(full.with_line(pages[149].replace("then m", "then q"))), len(full))

    def test_six_states_at_most(self):
        six = SMALL + ("read s 2.2 a", "read a 2.2 b")
        self.assertEqual(len(Book.from_lines(*six).reader), 6)
        check_raises(self, InvalidReader, lambda: Book.from_lines(*six, "read b 2.2 c"))
        check_raises(self, InvalidReader, lambda: Book.from_lines(*six).with_line("read b 2.2 c"))


class RightRows(unittest.TestCase):
    def test_as_the_reader_tells(self):
        for row in ((), ((1, 0),), ((1, 3), (0, 2)), ((3, 3),) * 199 + ((0, 1),), ((3, 3),) * 200):
            self.assertIs(PAIRS.is_right(row), True)
        for value in (
            ((0, 1), (1, 1)), ((4, 1),), ((1, 1), (0, 0)), ((3, 3),) * 201, [(1, 1)], "1.1", None, ((True, 1),),
        ):
            self.assertIs(PAIRS.is_right(value), False)
        for value in odd_values():
            self.assertIs(PAIRS.is_right(value), value in ((), ((1, 2),)))


class Changing(unittest.TestCase):
    def test_mirrored(self):
        book = Book.from_lines(
            *SMALL[:3], "read s 1.2 o", "read o 3.0 e", *SMALL[5:9], PAGE, "page n last 4.0 to 3.1 pass 0.0 then m",
        )
        self.assertEqual(
            sorted(book.mirrored().lines),
            sorted([
                *SMALL[:3], "read s 2.1 o", "read o 0.3 e", "start pushl b", "start pushr a", "start popl c",
                "start popr m",
                "page m inner 1.4 to 1.2 pass 0.1 then n", "page n last 0.4 to 1.3 pass 0.0 then m",
            ]),
        )
        self.assertEqual(book.mirrored().mirrored(), book)
        for same in (PAIRS, TIGHT, TRIPLES):
            self.assertEqual(same.mirrored(), same)
        self.assertNotEqual(LESS.mirrored(), LESS)
        self.assertNotEqual(wide().mirrored(), wide())

    def test_with_a_line_in_the_place_of_another_one(self):
        book = Book.from_lines(*SMALL)
        for line, at in (
            ("first t", 1), ("ends o", 2), ("read s 1.1 e", 4), ("read o 0.0 z", 3), ("start pushl z", 5),
            ("start popr z", 8),
            ("page m inner 4.1 to 4.1 pass 0.0 then m", 9), ("page n last 4.0 to 0.0 pass 1.1 then x", 10),
        ):
            changed = book.with_line(line)
            self.assertEqual(set(changed.lines), set(SMALL[:at] + (line,) + SMALL[at + 1:]))
            self.assertEqual(len(changed), len(SMALL))
        for line in SMALL:
            self.assertEqual(book.with_line(line), book)
        self.assertEqual(book.lines, SMALL)

    def test_with_one_line_more(self):
        book = Book.from_lines(*SMALL)
        for line in (
            "read s 1.2 o", "read x 1.1 e", "page n inner 4.1 to 2.1 pass 1.0 then n",
            "page m last 4.1 to 4.1 pass 0.0 then m",
        ):
            self.assertEqual(set(book.with_line(line).lines), set(SMALL) | {line})
        self.assertEqual(book.with_line("read a 1.1 o").lines[3], "read a 1.1 o")

    def test_with_a_line_of_another_arity(self):
        check_raises(self, InvalidPage, lambda: PAIRS.with_line("arity 3"))
        check_raises(self, InvalidPage, lambda: TRIPLES.with_line("arity 2"))
        check_raises(self, InvalidPage, lambda: PAIRS.with_line("page m inner 4.1 to 1.1 pass 1.0 then n"))
        self.assertEqual(plain(PAIRS.reader).with_line("arity 3"), plain(PAIRS.reader, 3))
        self.assertEqual(PAIRS.with_line("arity 2"), PAIRS)

    def test_with_a_line_of_no_reader(self):
        for line in ("first o", "first e", "ends s", "ends o s", "read o 1.1 s", "read s 0.0 e"):
            check_raises(self, InvalidReader, lambda: PAIRS.with_line(line))

    def test_without(self):
        for book in (PAIRS, Book.from_lines(*SMALL)):
            for at, line in enumerate(book.lines):
                if line.split()[0] in ("read", "page"):
                    self.assertEqual(book.without(line).lines, book.lines[:at] + book.lines[at + 1:])
                else:
                    check_raises(self, UnknownName, lambda: book.without(line), line)
        self.assertEqual(len(PAIRS), 63)

    def test_without_what_is_no_line(self):
        for value in odd_values() + list(NO_LINES) + [
            "read s 4.4 o", "read s 1.1 e", "read x 1.1 o", PAGE, "page m inner 4.1 to 4.1 pass 0.0 then m",
            "first t", "arity 3",
            PAIRS.lines, PAIRS.machine.pages[0], ("read s 1.1 o",), ["read s 1.1 o"], {"read s 1.1 o": 1},
        ]:
            with self.subTest(value=value):
                with self.assertRaises(UnknownName) as caught:
                    PAIRS.without(value)
                self.assertIs(caught.exception.word, value)
        self.assertNotIn("read s 1.1 o", PAIRS.without("read s 1.1 o"))
        check_raises(self, UnknownName, lambda: PAIRS.without("read s 1.1 o").without("read s 1.1 o"), "read s 1.1 o")

    def test_renamed(self):
        book = Book.from_lines(*SMALL)
        states = {"s": "e", "e": "z", "o": "b", "x": "s"}
        notes = {"a": "m", "b": "pushl", "m": "a", "c": "x", "n": "n"}
        renamed = book.renamed(states, notes)
        self.assertEqual(renamed.lines, (
            "arity 2", "first e", "ends b z", "read b 0.0 s", "read e 1.1 b", "start pushl m", "start pushr pushl",
            "start popl a",
            "start popr x", "page a inner 4.1 to 2.1 pass 1.0 then n", "page n last 4.0 to 2.2 pass 0.0 then a",
        ))
        self.assertEqual((book.lines, states["s"], notes["b"]), (SMALL, "e", "pushl"))
        self.assertEqual(PAIRS.renamed({"s": "s", "e": "e", "o": "o"}, {"m": "m"}), PAIRS)
        back = renamed.renamed({new: old for old, new in states.items()}, {new: old for old, new in notes.items()})
        self.assertEqual(back, book)

    def test_renamed_by_what_is_no_renaming(self):
        no_states = [(value, InvalidOperation) for value in (
            {"s": "a", "e": "b"}, {"s": "a", "e": "b", "o": "c", "x": "d"}, {"s": "a", "e": "b", "o": "b"},
            {"s": "A", "e": "b", "o": "c"}, {"s": 1, "e": "b", "o": "c"}, {}, None, ("a", "b", "c"),
            {"s": "a", "e": "b", "p": "c"},
        )]
        no_notes = [
            (value, InvalidOperation) for value in (
                {}, {"n": "m"}, {"m": ""}, {"m": "m", "n": "n"}, None, "m", {"m": ["m"]},
            )
        ]
        states = {"s": "s", "e": "e", "o": "o"}
        check_first_error(self, PAIRS.renamed, (states, {"m": "m"}), (no_states, no_notes))
        # Notes of pages and of starts alike.
        book = Book.from_lines(*SMALL)
        for missing in "abcmn":
            notes = {note: note for note in "abcmn" if note != missing}
            check_raises(self, InvalidOperation, lambda: book.renamed({state: state for state in "eosx"}, notes))
        for value in odd_values():
            check_raises(self, InvalidOperation, lambda: PAIRS.renamed(value, {"m": "m"}))
            check_raises(self, InvalidOperation, lambda: PAIRS.renamed(states, value))

    def test_renamed_books_take_the_same_rows(self):
        rng = random.Random(5)
        for _ in range(10):
            book = changed_book(rng, PAIRS, 6)
            names = ["aa", "b", "zz"]
            rng.shuffle(names)
            notes = {note: note + "x" for note in set(book.machine.notes) | {"m"}}
            other = book.renamed(dict(zip(book.reader.states, names)), notes)
            self.assertEqual(sorted(right_rows(other.reader, 2)), sorted(right_rows(book.reader, 2)))
            self.assertEqual(other.machine.notes, tuple(note + "x" for note in book.machine.notes))


class Holding(unittest.TestCase):
    def test_lines_are_in_it(self):
        for line in PAIRS.lines:
            self.assertIs(line in PAIRS, True)
        for value in odd_values() + list(NO_LINES) + [
            PAIRS.lines, "arity 3", "read s 1.1 e", PAIRS.machine.pages[0], "start popl n",
        ]:
            self.assertIs(value in PAIRS, False)

    def test_iterating_yields_the_lines(self):
        self.assertEqual(tuple(PAIRS), PAIRS.lines)
        self.assertEqual([line for line in Book.from_lines(*SMALL)], list(SMALL))
        self.assertEqual([len(PAIRS), len(TIGHT), len(Book.from_lines(*SMALL))], [63, 41, 11])

    def test_equality(self):
        for book, other in itertools.product(
            (PAIRS, TIGHT, TRIPLES, LESS, wide(), plain(PAIRS.reader), plain(PAIRS.reader, 3)), repeat=2,
        ):
            self.assertIs(book == other, book is other or book.lines == other.lines)
            self.assertIs(book != other, not book == other)
        self.assertTrue(PAIRS == Book(PAIRS.reader, PAIRS.machine, dict(reversed(STARTS.items()))))
        self.assertFalse(PAIRS == PAIRS.with_line("start popr n"))
        for value in [
            value for value in odd_values() if not isinstance(value, Book)
        ] + [PAIRS.lines, list(PAIRS.lines)]:
            self.assertIs(PAIRS == value, False)
            self.assertIs(PAIRS != value, True)

    def test_str(self):
        self.assertEqual(
            [str(PAIRS), str(plain(PAIRS.reader, 3)), str(Book.from_lines(*SMALL))],
            [
                "book of arity 2, 3 states, 26 pages", "book of arity 3, 3 states, 0 pages",
                "book of arity 2, 4 states, 2 pages",
            ],
        )


if __name__ == "__main__":
    unittest.main()
