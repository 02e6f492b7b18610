"""Promise 17.1 and the interface of fingerbooks.text.texts."""

import itertools
import random
import unittest

from fingerbooks.base.forms import write_row
from fingerbooks.book.books import DEEDS, Book
from fingerbooks.decide.papers import is_paper, paper
from fingerbooks.decide.tables import Table, start_of
from fingerbooks.errors import (
    InvalidBook, InvalidOperation, InvalidPage, InvalidPaper, InvalidReader, ParseError,
)
from fingerbooks.text.texts import (
    read_book, read_paper, read_plan, read_stand, write_book, write_paper, write_plan, write_stand,
)
from tests.books import LESS, PAIRS, TIGHT
from tests.checks import check_first_error, check_raises
from tests.trying import rows_up_to, some_books
from tests.values import odd_values

ALL = (read_book, read_paper, read_plan, read_stand, write_book, write_paper, write_plan, write_stand)
STANDS = (
    (("s", (-1, 0), "m", "o", True), "s -1.0 m o yes"), (("", (0, 0), "m", "", True), ". 0.0 m . yes"),
    (("", (0, 0), "", "", False), ". 0.0 . . no"), (("o", (0, 0), "", "", False), "o 0.0 . . no"),
    (("abcdefgh", (2, -2), "zyxwvuts", "q", False), "abcdefgh 2.-2 zyxwvuts q no"),
    (("", (-2, 2), "m", "", False), ". -2.2 m . no"), (("m", (0, 0), "m", "m", True), "m 0.0 m m yes"),
)
NO_STANDS = (
    None, (), "s -1.0 m o yes", ("s", (-1, 0), "m", "o"), ("s", (-1, 0), "m", "o", 1), ("s", (-1, 0), "m", "o", "yes"),
    ["s", (-1, 0), "m", "o", True], ("s", (-3, 0), "m", "o", True), ("s", (0, 3), "m", "o", True),
    ("s", [0, 1], "m", "o", True), ("s", (True, 0), "m", "o", True), ("s", (0,), "m", "o", True),
    ("S", (0, 0), "m", "o", True), (".", (0, 0), "m", "o", True), ("s", (0, 0), ".", "", False),
    ("s", (0, 0), "m", ".", True), ("abcdefghi", (0, 0), "m", "o", True), (None, (0, 0), "m", "o", True),
    ("s", (0, 1), "", "", False), ("s", (0, 0), "", "o", False), ("s", (0, 0), "", "", True),
    ("s", (0, 0), "m", None, True), ("s", (0, 0), 1, "o", True), ("s", (0, 0), "m", "o", True, True),
)
NO_STAND_TEXTS = (
    "", "s", "s -1.0 m o", "s -1.0 m o yes yes", " s -1.0 m o yes", "s -1.0 m o yes ", "s  -1.0 m o yes",
    "s -1.0 m o Yes",
    "s -1.0 m o y", "s -1.0 m o True", "s -3.0 m o yes", "s 0.3 m o yes", "s -0.0 m o yes", "s 01.0 m o yes",
    "s 1 m o yes", "s 1.0.0 m o yes", "S -1.0 m o yes", "abcdefghi 0.0 m o yes", "s -1.0 m o yes\n", "s -1.0\tm o yes",
    "s 0.1 . . no", "s 0.0 . o no", "s 0.0 . . yes", " -1.0 m o yes", "s -1.0 m  yes", "s . m o yes", ".. 0.0 m o yes",
)
NO_PLANS = ((), ("pushl",) * 5, ["pushl"], "pushl", ("push",), None, (("pushl",),), ("pushl", None))
NO_PLAN_TEXTS = (
    "", "+", "push", "pushl+", "+pushl", "pushl++popl", "pushl popl", "pushl+ popl", "pushl+popl\n", "Pushl",
    "pushl,popl",
    "+".join(["pushl"] * 5), "pushl+popl+",
)
A_STAND, ANOTHER = ("", (0, 0), "m", "e", True), ("s", (1, 0), "m", "s", True)


class Interface(unittest.TestCase):
    def test_functions_are_defined_here(self):
        for function in ALL:
            self.assertEqual(function.__module__, "fingerbooks.text.texts")


class Books(unittest.TestCase):
    def test_there_and_back(self):
        for book in some_books(101):
            text = write_book(book)
            self.assertEqual(text.split("\n"), list(book.lines))
            self.assertEqual(read_book(text), book)
            lines = list(book.lines)
            random.Random(102).shuffle(lines)
            self.assertEqual(read_book("\n".join(lines)), book)

    def test_bent_texts(self):
        text = write_book(LESS)
        lines = text.split("\n")
        for at, line in enumerate(lines):
            for bent in (line + " ", " " + line, line.upper(), line[:-1] + "1.", line.replace(" ", "  ", 1), ""):
                check_raises(self, ParseError, lambda: read_book("\n".join(lines[:at] + [bent] + lines[at + 1:])), at)
            twice = "\n".join(lines + [line])
            check_raises(self, ParseError, lambda: read_book(twice), len(lines))
        check_raises(self, ParseError, lambda: read_book(text + "\n"), len(lines))
        check_raises(self, ParseError, lambda: read_book("\n" + text), 0)
        check_raises(self, ParseError, lambda: read_book(text.replace("\n", "\r\n")), 0)
        check_raises(self, ParseError, lambda: read_book(""), 0)

    def test_lines_that_make_no_book(self):
        lines = list(PAIRS.lines)
        check_raises(self, InvalidBook, lambda: read_book("\n".join(lines[1:])))
        check_raises(self, InvalidBook, lambda: read_book("\n".join(line for line in lines if line != "start popl m")))
        check_raises(self, InvalidReader, lambda: read_book("\n".join(line for line in lines if line != "first s")))
        check_raises(self, InvalidPage, lambda: read_book("\n".join(lines).replace("arity 2", "arity 3")))

    def test_values_of_every_kind(self):
        for value in odd_values():
            with self.subTest(value=value):
                if not isinstance(value, Book):
                    check_raises(self, InvalidBook, lambda: write_book(value))
                kept = 0 if isinstance(value, str) else None
                check_raises(self, ParseError, lambda: read_book(value), kept)


class Stands(unittest.TestCase):
    def test_there_and_back(self):
        for stand, text in STANDS:
            self.assertEqual([write_stand(stand), read_stand(text)], [text, stand])
        for book in some_books(103, 3):
            for deed in DEEDS:
                for stand in Table(book, deed):
                    self.assertEqual(read_stand(write_stand(stand)), stand)

    def test_all_pairs(self):
        for left, right in itertools.product(range(-3, 4), repeat=2):
            stand, text = ("s", (left, right), "m", "o", True), f"s {left}.{right} m o yes"
            if max(abs(left), abs(right)) <= 2:
                self.assertEqual([write_stand(stand), read_stand(text)], [text, stand])
            else:
                check_raises(self, InvalidOperation, lambda: write_stand(stand))
                check_raises(self, ParseError, lambda: read_stand(text), None)

    def test_of_the_document(self):
        self.assertEqual(write_stand(start_of(PAIRS, "popl")), "s -1.0 m s yes")
        self.assertEqual(read_stand(". 0.0 m . yes"), ("", (0, 0), "m", "", True))

    def test_what_is_none(self):
        for value in NO_STANDS:
            check_raises(self, InvalidOperation, lambda: write_stand(value))
        for value in NO_STAND_TEXTS + (None, 1, ("s -1.0 m o yes",)):
            with self.subTest(value=value):
                check_raises(self, ParseError, lambda: read_stand(value), None)

    def test_bent_by_a_sign(self):
        # Each text of a stand is that of just one.
        for stand, text in STANDS:
            for at, sign in itertools.product(range(len(text)), "a.-10 +"):
                bent = text[:at] + sign + text[at + 1:]
                try:
                    self.assertEqual(write_stand(read_stand(bent)), bent)
                except ParseError as error:
                    self.assertIsNone(error.number)

    def test_values_of_every_kind(self):
        for value in odd_values():
            with self.subTest(value=value):
                check_raises(self, InvalidOperation, lambda: write_stand(value))
                check_raises(self, ParseError, lambda: read_stand(value), None)
                check_raises(self, InvalidOperation, lambda: write_stand((value, (5, 0), "m", "o", True)))
                if not isinstance(value, bool):
                    check_raises(self, InvalidOperation, lambda: write_stand(("s", (0, 0), "m", "o", value)))


class Plans(unittest.TestCase):
    def test_there_and_back(self):
        for many in range(1, 5):
            for plan in itertools.product(DEEDS, repeat=many):
                self.assertEqual(write_plan(plan), "+".join(plan))
                self.assertEqual(read_plan("+".join(plan)), plan)

    def test_what_is_none(self):
        for value in NO_PLANS:
            check_raises(self, InvalidOperation, lambda: write_plan(value))
        for value in NO_PLAN_TEXTS + (None, 1, ("pushl",)):
            check_raises(self, ParseError, lambda: read_plan(value), None)
        for value in odd_values():
            check_raises(self, InvalidOperation, lambda: write_plan(value))
            check_raises(self, ParseError, lambda: read_plan(value), None)


class Papers(unittest.TestCase):
    def test_there_and_back(self):
        for book in some_books(104, 4):
            for deed in DEEDS:
                found = paper(book, deed)
                text = write_paper(found)
                self.assertEqual(read_paper(text), found)
                self.assertIs(is_paper(book, deed, read_paper(text)), True)
                if found[0] == "good":
                    self.assertEqual(text.split("\n"), ["good"] + [write_stand(stand) for stand in found[1]])
                else:
                    self.assertEqual(text, "bad\n" + write_row(found[1]))

    def test_of_any_stands_and_rows(self):
        for stands in ((), (A_STAND,), (A_STAND, ANOTHER), tuple(sorted(stand for stand, _ in STANDS))):
            self.assertEqual(read_paper(write_paper(("good", stands))), ("good", stands))
        for row in rows_up_to(PAIRS, 10) + [((7, 7),) * 200, ((0, 0), (0, 1))]:
            self.assertEqual(read_paper(write_paper(("bad", row))), ("bad", row))
        self.assertEqual(write_paper(("bad", ())), "bad\n-")
        self.assertEqual(write_paper(("good", ())), "good")

    def test_of_the_document(self):
        self.assertEqual(write_paper(paper(LESS, "popl")), "bad\n0.1")

    def test_the_index_of_the_first_line_that_is_none(self):
        one, other = write_stand(A_STAND), write_stand(ANOTHER)
        for text, number in (
            ("", 0), ("Good", 0), ("good ", 0), (one, 0), ("bad ", 0), ("\ngood", 0), ("0.1", 0), ("good" + one, 0),
            ("good\n", 1), ("good\nfly", 1), (f"good\n{one}\n{one}", 2), (f"good\n{other}\n{one}", 2),
            (f"good\n{one}\n", 2), (f"good\n{one}\n{other}\n", 3), (f"good\n{one}\n{other}\n{other}", 3),
            (f"good\n{one}\nfly\nfly", 2), ("good\n0.1", 1), ("bad", 1), ("bad\n", 1), ("bad\nfly", 1),
            ("bad\n1.1 0.0", 1),
            ("bad\n8.1", 1), ("bad\n0.1\n", 2), ("bad\n0.1\n0.1", 2), ("bad\n-\n-", 2), ("bad\nfly\nfly", 1),
            (f"bad\n{one}", 1), ("bad\n" + " ".join(["1.1"] * 201), 1), ("bad\n 0.1", 1),
        ):
            with self.subTest(text=text):
                check_raises(self, ParseError, lambda: read_paper(text), number)

    def test_what_is_none(self):
        for value in (
            None, (), ("good",), ("good", (A_STAND,), 1), ["good", (A_STAND,)], ("good", [A_STAND]), ("good", A_STAND),
            ("good", (ANOTHER, A_STAND)), ("good", (A_STAND, A_STAND)), ("good", ((1, 1),)), ("bad", (A_STAND,)),
            ("bad", ((0, 0),)), ("bad", [(0, 1)]), ("bad", ((8, 1),)), ("bad", ((1, 1),) * 201), ("Bad", ((0, 1),)),
            ("bad", ((True, 1),)), ("good", (A_STAND[:4] + (1,),)), ("bad", None), "bad\n0.1",
        ):
            check_raises(self, InvalidPaper, lambda: write_paper(value))
        for value in odd_values():
            with self.subTest(value=value):
                for shown in (value, ("good", (value,)), (value, ()), ("bad", (value,))):
                    if shown != ("bad", ((1, 2),)):
                        check_raises(self, InvalidPaper, lambda: write_paper(shown))
                kept = 0 if isinstance(value, str) else None
                check_raises(self, ParseError, lambda: read_paper(value), kept)

    def test_errors(self):
        check_first_error(self, write_book, (TIGHT,), ([(value, InvalidBook) for value in (None, "b", TIGHT.lines)],))


if __name__ == "__main__":
    unittest.main()
