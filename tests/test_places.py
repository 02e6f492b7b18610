"""Promise 8.1 and the interface of fingerbooks.seq.places."""

import itertools
import random
import unittest

from fingerbooks.book.books import DEEDS, Book
from fingerbooks.deeds.rows import new_row
from fingerbooks.errors import (
    EmptySequence, InvalidBook, InvalidNumber, InvalidOperation, InvalidPlace, InvalidRow,
)
from fingerbooks.seq import places
from fingerbooks.seq.places import beside, is_place, number_of, outward, place_behind, place_of, spans, staying
from tests import bundles
from tests.books import (
    FORMS, LESS, PAIRS, TIGHT, TRIPLES, changed_book, content_of, random_book, right_rows, size, wide,
)
from tests.checks import check_first_error, check_raises
from tests.values import odd_values

ROW = ((1, 1), (1, 0), (0, 1))
PLACE = (1, "left", 0, (1,))
NO_ARITIES = [(value, InvalidNumber) for value in (1, 4, True, None, "2", (2,), [2], 10 ** 60 + 2, -2, PAIRS)]
NO_ROWS = [
    (value, InvalidRow) for value in (
        ((0, 0),), ((8, 0),), [(1, 1)], None, "1.1", ((1, 1), (0, 0)), ((1, 1),) * 201, PAIRS,
    )
]
NO_PLACES = (
    None, 0, "0", (), (0, "left", 0), (0, "left", 0, (), 0), [0, "left", 0, ()], (0, "left", 1, ()),
    (0, "left", -1, ()),
    (-1, "left", 0, ()), (3, "right", 0, (0, 0, 0)), (0, "Left", 0, ()), (0, "inner", 0, ()), (0, None, 0, ()),
    (0, 0, 0, ()),
    (0, ["left"], 0, ()), (0, "left", 0, []), (0, "left", 0, (0,)), (0, "left", 0, None), (1, "left", 0, ()),
    (1, "left", 0, (2,)),
    (1, "left", 0, (-1,)), (1, "left", 0, (0, 0)), (1, "right", 0, (0,)), (2, "left", 0, (0, 0)),
    (2, "right", 0, (0, 2)),
    (2, "right", 0, (2, 0)), (2, "right", 1, (0, 0)), (2, "right", 0, (0,)), (2, "right", 0, [0, 0]),
    (2, "right", 0, (0, None)),
    (True, "left", 0, (0,)), (False, "left", 0, ()), (0, "left", False, ()), (1, "left", False, (0,)),
    (1, "left", 0, (True,)),
    (1, "left", 0, (False,)), (0, "left", None, ()), (0, "left", 10 ** 60, ()), (10 ** 60, "left", 0, ()),
    ("left", 0, 0, ()), PAIRS,
)


def some_rows(levels=3):
    """Rows with all kinds of forms, right or not."""
    rng = random.Random(10)
    found = [(), ((1, 0),), ((0, 1),), ((7, 7),), ((0, 0), (0, 1)), ((0, 0), (1, 0)), ((2, 0), (0, 0), (0, 3)), ROW]
    for _ in range(60):
        row = tuple(rng.choice(FORMS[:30]) for _ in range(rng.randint(1, levels)))
        if row[-1] != (0, 0):
            found.append(row)
    return found


def some_cases():
    """Books, right rows and deeds that can be done there."""
    rng = random.Random(11)
    found = [PAIRS, TIGHT, LESS, TRIPLES, wide(), wide().mirrored()]
    found += [changed_book(rng, rng.choice((PAIRS, TRIPLES, wide())), rng.randint(1, 8)) for _ in range(12)]
    found += [random_book(rng, rng.choice((2, 3)), FORMS[:3] + FORMS[8:11], 150) for _ in range(25)]
    for book in found:
        rows = right_rows(book.reader, 3)
        for row in [()] + rng.sample(rows, min(10, len(rows))):
            for deed in DEEDS:
                if row != () or deed.startswith("push"):
                    yield book, row, deed


class Interface(unittest.TestCase):
    def test_constants(self):
        self.assertEqual(places.SIDES, ("left", "right"))

    def test_functions_are_defined_here(self):
        for function in (place_of, number_of, is_place, spans, beside, outward, place_behind, staying):
            self.assertEqual(function.__module__, "fingerbooks.seq.places")


class Places(unittest.TestCase):
    def test_of_real_bundles(self):
        for arity, row in itertools.product((2, 3), some_rows()):
            levels = bundles.filled(arity, row, range(size(arity, row)))
            found = bundles.places(levels)
            self.assertEqual(bundles.order(levels), list(range(size(arity, row))))
            for place, number in found.items():
                self.assertEqual(place_of(arity, row, number), place)
                self.assertEqual(number_of(arity, row, place), number)
                self.assertIs(is_place(arity, row, place), True)

    def test_just_these(self):
        for arity, row in itertools.product((2, 3), (ROW, ((0, 2), (1, 0)), ((2, 0), (0, 0), (0, 1)), ())):
            found = bundles.places(bundles.filled(arity, row, range(size(arity, row))))
            paths = [path for many in range(4) for path in itertools.product(range(-1, 4), repeat=many)]
            for place in itertools.product(range(-1, 4), ("left", "right"), range(-1, 4), paths):
                self.assertIs(is_place(arity, row, place), place in found)

    def test_borders_of_each_side(self):
        for arity, row in itertools.product((2, 3), some_rows()):
            for level, side, begin, end in spans(arity, row):
                many = row[level][("left", "right").index(side)]
                self.assertEqual(place_of(arity, row, begin), (level, side, 0, (0,) * level))
                self.assertEqual(place_of(arity, row, end - 1), (level, side, many - 1, (arity - 1,) * level))
                self.assertIs(is_place(arity, row, (level, side, many, (0,) * level)), False)
                check_raises(self, InvalidPlace, lambda: number_of(arity, row, (level, side, many, (0,) * level)))

    def test_paths_go_from_the_whole_bundle_to_its_parts(self):
        row = ((0, 0), (0, 0), (0, 0), (0, 2))
        self.assertEqual([place_of(2, row, number)[2:] for number in (0, 1, 2, 4, 8, 15)], [
            (0, (0, 0, 0)), (0, (0, 0, 1)), (0, (0, 1, 0)), (0, (1, 0, 0)), (1, (0, 0, 0)), (1, (1, 1, 1)),
        ])
        self.assertEqual(number_of(3, row, (3, "right", 1, (2, 0, 1))), 27 + 18 + 1)

    def test_200_levels(self):
        row = ((1, 1),) * 200
        self.assertEqual(place_of(2, row, 0), (0, "left", 0, ()))
        self.assertEqual(place_of(3, row, 1), (1, "left", 0, (0,)))
        place = (199, "right", 0, (2,) * 199)
        self.assertIs(is_place(3, row, place), True)
        self.assertEqual(number_of(3, row, place), (3 ** 200 - 1) // 2 + 3 ** 199 - 1)
        self.assertEqual(
            spans(2, row)[199:201],
            ((199, "left", 2 ** 199 - 1, 2 ** 200 - 1), (199, "right", 2 ** 200 - 1, 2 ** 200 - 1 + 2 ** 199)),
        )
        # A number that is passed has at most sixty digits.
        check_raises(self, InvalidNumber, lambda: place_of(3, row, 10 ** 60), 10 ** 60)
        self.assertEqual(place_of(3, row, 10 ** 60 - 1)[:3], (126, "left", 0))
        self.assertEqual(number_of(3, row, place_of(3, row, 10 ** 60 - 1)), 10 ** 60 - 1)
        self.assertEqual(beside(3, row, place)[1], (198, "right", 0, (0,) * 198))
        self.assertEqual(beside(3, row, place)[0], (199, "right", 0, (2,) * 198 + (1,)))

    def test_wrong_numbers(self):
        for function in (place_of, outward):
            for row in ((), ((1, 0),), ROW):
                for number in (
                    -1, size(2, row), size(2, row) + 1, 10 ** 59, 10 ** 60, True, False, None, "0", (0,), [0], {},
                    PAIRS,
                ):
                    check_raises(self, InvalidNumber, lambda: function(2, row, number), number)

    def test_wrong_places(self):
        for place in NO_PLACES:
            with self.subTest(place=place):
                self.assertIs(is_place(2, ROW, place), False)
                check_raises(self, InvalidPlace, lambda: number_of(2, ROW, place))
                check_raises(self, InvalidPlace, lambda: beside(2, ROW, place))
        self.assertIs(is_place(3, ROW, (1, "left", 0, (2,))), True)
        for value in odd_values():
            self.assertIs(is_place(2, ROW, value), False)
            self.assertIs(is_place(2, ROW, (0, "left", 0, value)), value == ())
            self.assertIs(is_place(2, ROW, (value, "left", 0, ())), type(value) is int and value == 0)
            self.assertIs(is_place(2, ROW, (0, "left", value, ())), type(value) is int and value == 0)
            self.assertIs(is_place(2, ROW, (0, value, 0, ())), False)
            self.assertIs(is_place(2, ROW, (1, "left", 0, (value,))), type(value) is int and value in (0, 1))

    def test_first_error(self):
        no_numbers = [(value, InvalidNumber) for value in (-1, 8, True, None, 10 ** 60)]
        no_places = [(value, InvalidPlace) for value in NO_PLACES[:5]]
        check_first_error(self, place_of, (2, ROW, 3), (NO_ARITIES[:4], NO_ROWS[:4], no_numbers))
        check_first_error(self, outward, (2, ROW, 3), (NO_ARITIES[:4], NO_ROWS[:4], no_numbers))
        check_first_error(self, number_of, (2, ROW, PLACE), (NO_ARITIES[:4], NO_ROWS[:4], no_places))
        check_first_error(self, beside, (2, ROW, PLACE), (NO_ARITIES[:4], NO_ROWS[:4], no_places))
        check_first_error(self, spans, (2, ROW), (NO_ARITIES, NO_ROWS))
        for value in (PLACE, None, (), PAIRS):
            check_first_error(self, lambda arity, row: is_place(arity, row, value), (3, ROW), (NO_ARITIES, NO_ROWS))

    def test_values_of_every_kind(self):
        for value in odd_values():
            with self.subTest(value=value):
                for function in (place_of, number_of, is_place, beside, outward):
                    if type(value) is not int or value not in (2, 3):
                        check_raises(self, InvalidNumber, lambda: function(value, ROW, PLACE), value)
                    if value not in ((), ((1, 2),)):
                        check_raises(self, InvalidRow, lambda: function(3, value, PLACE))
                if type(value) is not int or not 0 <= value < 8:
                    check_raises(self, InvalidNumber, lambda: place_of(2, ROW, value), value)
                    check_raises(self, InvalidNumber, lambda: outward(2, ROW, value), value)
                check_raises(self, InvalidPlace, lambda: number_of(2, ROW, value))


class Spans(unittest.TestCase):
    def test_of_real_bundles(self):
        for arity, row in itertools.product((2, 3), some_rows()):
            found = {}
            for number in range(size(arity, row)):
                found.setdefault(place_of(arity, row, number)[:2], []).append(number)
            expected = [side + (numbers[0], numbers[-1] + 1) for side, numbers in found.items()]
            self.assertEqual(spans(arity, row), tuple(expected))
            for numbers in found.values():
                self.assertEqual(numbers, list(range(numbers[0], numbers[-1] + 1)))

    def test_of_the_document(self):
        self.assertEqual(spans(2, ROW), ((0, "left", 0, 1), (1, "left", 1, 3), (2, "right", 3, 7), (0, "right", 7, 8)))
        self.assertEqual([spans(3, ()), spans(3, ((0, 0), (0, 2)))], [(), ((1, "right", 0, 6),)])


class Neighbours(unittest.TestCase):
    def test_beside(self):
        for arity, row in itertools.product((2, 3), some_rows(2)):
            many = size(arity, row)
            found = [place_of(arity, row, number) for number in range(many)]
            for number, place in enumerate(found):
                expected = (found[number - 1] if number else None, found[number + 1] if number + 1 < many else None)
                self.assertEqual(beside(arity, row, place), expected)
        self.assertEqual(beside(2, ((1, 0),), (0, "left", 0, ())), (None, None))

    def test_outward(self):
        for arity, row in itertools.product((2, 3), some_rows(2)):
            many = size(arity, row)
            for number in range(many):
                self.assertEqual(
                    outward(arity, row, number), (place_of(arity, row, number)[0], min(number, many - 1 - number)),
                )
        self.assertEqual([outward(2, ROW, number) for number in (0, 3, 4, 7)], [(0, 0), (2, 3), (2, 3), (0, 0)])


class Deeds(unittest.TestCase):
    def test_of_real_bundles(self):
        stay, moved = 0, 0
        for book, row, deed in some_cases():
            content = content_of(book.arity, row, 1)
            if len(content) > 150:
                continue
            levels = bundles.filled(book.arity, row, content)
            found = bundles.deed_done(book, levels, deed, 0)
            if found is None:
                check_raises(self, InvalidOperation, lambda: staying(book, row, deed))
                if content:
                    check_raises(self, InvalidOperation, lambda: place_behind(book, row, deed, 0))
                continue
            before = {element: place for place, element in bundles.places(levels).items()}
            behind = {element: place for place, element in bundles.places(found[0]).items()}
            for number, element in enumerate(content):
                self.assertEqual(place_behind(book, row, deed, number), behind.get(element))
            same = sum(behind.get(element) == place for element, place in before.items())
            self.assertEqual(staying(book, row, deed), same)
            stay += same
            moved += len(before) - same
            check_raises(self, InvalidNumber, lambda: place_behind(book, row, deed, len(content)), len(content))
        self.assertGreater(min(stay, moved), 1000)

    def test_of_the_document(self):
        row = ((3, 1), (1, 1))
        self.assertEqual(
            [place_behind(PAIRS, row, "pushl", 2), staying(PAIRS, row, "pushl")], [(1, "left", 0, (1,)), 3],
        )
        self.assertIsNone(place_behind(PAIRS, ((1, 1),), "popl", 0))

    def test_the_first_and_the_last_element(self):
        for row in (((1, 0),), ((0, 1),), ((1, 1),), ((2, 3),), ((3, 3), (1, 0))):
            many = size(2, row)
            self.assertIsNone(place_behind(PAIRS, row, "popl", 0))
            self.assertIsNone(place_behind(PAIRS, row, "popr", many - 1))
            self.assertIsNotNone(place_behind(PAIRS, row, "pushl", many - 1))
            for deed, number, behind in (
                ("pushl", 0, 1), ("pushr", many - 1, many - 1), ("popr", 0, 0), ("popl", many - 1, many - 2),
            ):
                if many > 1 or deed.startswith("push"):
                    new = new_row(PAIRS, row, deed)
                    self.assertEqual(place_behind(PAIRS, row, deed, number), place_of(2, new, behind))

    def test_great_rows(self):
        row = ((3, 3),) * 199 + ((2, 2),)
        many = size(2, row)
        self.assertEqual(staying(PAIRS, row, "pushl"), 3 * (2 ** 199 - 1) + 2 * 2 ** 199)
        self.assertEqual(staying(PAIRS, row, "popr"), many - 1)
        self.assertEqual(place_behind(PAIRS, row, "popr", 10 ** 59), place_of(2, row, 10 ** 59))
        row = ((3, 3),) * 200
        self.assertEqual(place_behind(PAIRS, row, "pushl", 3), (1, "left", 1, (0,)))
        self.assertEqual(staying(PAIRS, row, "pushr"), 3 * (2 ** 200 - 1))
        self.assertEqual(staying(PAIRS, ((2, 2),) * 200, "pushr"), 4 * (2 ** 200 - 1))

    def test_elements_of_a_row_that_a_deed_makes_wrong(self):
        loose = PAIRS.without("page m inner 0.2 to 2.2 pass -1.0 then m")
        self.assertFalse(loose.is_right(new_row(loose, ((1, 2), (0, 1)), "popl")))
        self.assertEqual(place_behind(loose, ((1, 2), (0, 1)), "popl", 1), (1, "right", 0, (0,)))
        self.assertEqual(staying(loose, ((1, 2), (0, 1)), "popl"), 4)

    def test_first_error(self):
        no_books = [(value, InvalidBook) for value in (None, PAIRS.reader, "book")]
        no_rows = [(value, InvalidRow) for value in (((0, 0),), ((4, 1),), None)]
        no_deeds = [(value, InvalidOperation) for value in ("left", None, 0)]
        no_numbers = [(value, InvalidNumber) for value in (-1, 2, True, None, 10 ** 60)]
        row = ((0, 1),)
        self.assertIsNone(new_row(LESS, row, "popl"))
        check_first_error(self, place_behind, (PAIRS, row, "popl", 0), (no_books, no_rows, no_deeds, no_numbers))
        check_first_error(self, staying, (PAIRS, row, "popl"), (no_books, no_rows, no_deeds))
        for deed in ("popl", "popr"):
            for number in (0, -1, None):
                check_raises(self, EmptySequence, lambda: place_behind(PAIRS, (), deed, number), deed)
            check_raises(self, EmptySequence, lambda: staying(PAIRS, (), deed), deed)
        check_raises(self, InvalidNumber, lambda: place_behind(PAIRS, (), "pushl", 0), 0)
        self.assertEqual(staying(PAIRS, (), "pushl"), 0)
        # The wrong number comes ahead of the deed that breaks.
        check_raises(self, InvalidNumber, lambda: place_behind(LESS, row, "popl", 1), 1)
        check_raises(self, InvalidOperation, lambda: place_behind(LESS, row, "popl", 0))
        check_raises(self, InvalidOperation, lambda: staying(LESS, row, "popl"))

    def test_values_of_every_kind(self):
        for value in odd_values():
            with self.subTest(value=value):
                if not isinstance(value, Book):
                    check_raises(self, InvalidBook, lambda: place_behind(value, ((1, 1),), "popl", 0))
                    check_raises(self, InvalidBook, lambda: staying(value, ((1, 1),), "popl"))
                if value not in ((), ((1, 2),)):
                    check_raises(self, InvalidRow, lambda: place_behind(PAIRS, value, "popl", 0))
                    check_raises(self, InvalidRow, lambda: staying(PAIRS, value, "popl"))
                check_raises(self, InvalidOperation, lambda: place_behind(PAIRS, ((1, 1),), value, 0))
                check_raises(self, InvalidOperation, lambda: staying(PAIRS, (), value))
                if type(value) is not int or value not in (0, 1):
                    check_raises(self, InvalidNumber, lambda: place_behind(PAIRS, ((1, 1),), "popl", value), value)


if __name__ == "__main__":
    unittest.main()
