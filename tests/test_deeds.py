"""Promises 0.10 to 0.16 and the interface of fingerbooks.deeds.rows."""

import random
import unittest

from fingerbooks.book.books import DEEDS, Book
from fingerbooks.deeds import rows
from fingerbooks.deeds.rows import broken_at, is_done, lengths_along, new_row, row_after, steps, touched
from fingerbooks.errors import Broken, EmptySequence, InvalidBook, InvalidOperation, InvalidRow
from tests.books import (
    FORMS, LESS, PAIRS, TIGHT, TRIPLES, changed_book, content_of, random_book, right_rows, size, wide,
)
from tests.bundles import deed_done, filled, order
from tests.checks import check_first_error, check_raises
from tests.values import odd_values

PAIR_OF = {"pushl": (1, 0), "pushr": (0, 1), "popl": (-1, 0), "popr": (0, -1)}
ONE_ROW = (new_row, is_done, steps, broken_at, touched)
NO_BOOKS = [(value, InvalidBook) for value in (None, PAIRS.reader, PAIRS.machine, PAIRS.lines, "book", 2)]
NO_ROWS = [(value, InvalidRow) for value in (
    ((0, 0),), ((0, 1), (1, 1)), ((4, 1),), [(1, 1)], None, "1.1", ((1, 1), (0, 0)), ((1, 1),) * 201, ((True, 1),), 0,
    PAIRS,
)]
NO_DEEDS = [(value, InvalidOperation) for value in (
    "", "push", "Pushl", "pushl ", None, 0, True, ("pushl",), ["popl"], {"popl": 1}, PAIRS, "left",
)]


def some_books():
    """Books by rule and by chance, most with right rows in which deeds are done, fail and break."""
    rng = random.Random(7)
    found = [PAIRS, TIGHT, LESS, TRIPLES, wide(), wide().mirrored()]
    found += [changed_book(rng, rng.choice((PAIRS, TIGHT, TRIPLES, wide())), rng.randint(1, 8)) for _ in range(40)]
    found += [random_book(rng, rng.choice((2, 3)), FORMS[:3] + FORMS[8:11], 150) for _ in range(40)]
    return found


def some_cases(many=25):
    """Books, right rows and deeds that can be done there."""
    rng = random.Random(8)
    for book in some_books():
        found = right_rows(book.reader, 3)
        for row in [()] + rng.sample(found, min(many, len(found))):
            for deed in DEEDS:
                if row != () or deed.startswith("push"):
                    yield book, row, deed


class Interface(unittest.TestCase):
    def test_constants(self):
        self.assertEqual(rows.MAX_DEEDS, 1000)

    def test_functions_are_defined_here(self):
        for function in ONE_ROW + (row_after, lengths_along):
            self.assertEqual(function.__module__, "fingerbooks.deeds.rows")


class OneDeed(unittest.TestCase):
    def test_as_the_machine_goes(self):
        counts = {"done": 0, "breaks": 0, "fails": 0}
        for book, row, deed in some_cases():
            new, done = book.machine.run(book.starts[deed], PAIR_OF[deed], row)
            self.assertEqual((new_row(book, row, deed), steps(book, row, deed)), (new, done))
            self.assertIs(is_done(book, row, deed), new is not None and book.is_right(new))
            self.assertEqual(broken_at(book, row, deed), None if new is not None else len(done) - 1)
            counts["breaks" if new is None else "done" if book.is_right(new) else "fails"] += 1
        self.assertGreater(min(counts.values()), 300)

    def test_real_bundles_come_to_the_new_row(self):
        several = 0
        for book, row, deed in some_cases():
            content = content_of(book.arity, row)
            found = deed_done(book, filled(book.arity, row, content), deed, 7)
            if found is None:
                self.assertIsNone(new_row(book, row, deed))
                continue
            levels, taken = found
            self.assertEqual(new_row(book, row, deed), tuple((len(left), len(right)) for left, right in levels))
            expected = {
                "pushl": ((7,) + content, []), "pushr": (content + (7,), []), "popl": (content[1:], [*content[:1]]),
                "popr": (content[:-1], [*content[-1:]]),
            }
            self.assertEqual((tuple(order(levels)), taken), expected[deed])
            several += max(abs(number) for _, _, result in steps(book, row, deed) for number in result[1]) > 1
        self.assertGreater(several, 50)

    def test_a_deed_that_does_not_break_changes_the_length_by_one(self):
        for book, row, deed in some_cases():
            new = new_row(book, row, deed)
            if new is not None:
                self.assertEqual(size(book.arity, new) - size(book.arity, row), sum(PAIR_OF[deed]))

    def test_mirrored(self):
        other = {"pushl": "pushr", "pushr": "pushl", "popl": "popr", "popr": "popl"}
        for book, row, deed in some_cases(6):
            mirrored, mirrored_row = book.mirrored(), tuple(form[::-1] for form in row)
            new = new_row(book, row, deed)
            found = new_row(mirrored, mirrored_row, other[deed])
            self.assertEqual(found, None if new is None else tuple(form[::-1] for form in new))
            self.assertEqual(touched(mirrored, mirrored_row, other[deed]), touched(book, row, deed))

    def test_touched_levels(self):
        for book, row, deed in some_cases():
            pair, expected = PAIR_OF[deed], []
            done = steps(book, row, deed)
            for level, (where, raw, result) in enumerate(done):
                old = row[level] if level < len(row) else (0, 0)
                self.assertEqual(raw, (old[0] + pair[0], old[1] + pair[1]))
                self.assertEqual(where, "inner" if level < len(row) - 1 else "last")
                if result is None or pair != (0, 0) or result[0] != old:
                    expected.append(level)
                pair = (0, 0) if result is None else result[1]
            self.assertEqual(touched(book, row, deed), tuple(expected))
            self.assertEqual(expected[0], 0)

    def test_of_the_document(self):
        self.assertEqual(
            [new_row(PAIRS, ((3, 3),), "pushl"), new_row(PAIRS, ((1, 1), (0, 1)), "popl")],
            [((2, 3), (1, 0)), ((2, 1),)],
        )
        self.assertEqual(
            [touched(PAIRS, ((1, 1), (0, 1)), "popl"), touched(PAIRS, ((2, 1), (0, 1)), "pushl")], [(0, 1), (0,)],
        )
        self.assertEqual(
            [new_row(LESS, ((1, 1), (0, 1)), "popl"), broken_at(LESS, ((1, 1), (0, 1)), "popl")], [None, 1],
        )
        self.assertEqual(
            steps(LESS, ((1, 1), (0, 1)), "popl"), (("inner", (0, 1), ((2, 1), (-1, 0), "m")), ("last", (-1, 1), None)),
        )

    def test_a_row_in_which_a_deed_breaks_or_fails(self):
        row = ((1, 1), (0, 1))
        self.assertIs(is_done(LESS, row, "popl"), False)
        self.assertEqual(touched(LESS, row, "popl"), (0, 1))
        self.assertEqual([new_row(LESS, ((0, 1),), "popl"), broken_at(LESS, ((0, 1),), "popl")], [None, 0])
        self.assertEqual(touched(LESS, ((0, 1),), "popl"), (0,))
        loose = PAIRS.without("page m inner 0.2 to 2.2 pass -1.0 then m")
        row = ((1, 2), (0, 1))
        self.assertEqual([new_row(loose, row, "popl"), is_done(loose, row, "popl")], [((0, 2), (0, 1)), False])
        self.assertEqual([broken_at(loose, row, "popl"), touched(loose, row, "popl")], [None, (0,)])

    def test_touched_if_the_form_changes_though_nothing_comes(self):
        book = self.book_with("page m inner 2.1 to 2.1 pass 0.0 then n", "page n inner 3.1 to 1.1 pass 1.0 then k")
        row = ((1, 1), (1, 1), (3, 1), (1, 1), (3, 1), (2, 2))
        self.assertEqual(new_row(book, row, "pushl"), ((2, 1), (1, 1), (1, 1), (2, 1), (3, 1), (2, 2)))
        self.assertEqual(touched(book, row, "pushl"), (0, 2, 3))
        self.assertEqual(touched(book, row[:1] + row[2:], "pushl"), (0, 1, 2))
        self.assertEqual(touched(book, row[:2] + row[3:], "pushl"), (0, 3, 4))

    def test_touched_if_something_comes_though_the_form_stays(self):
        book = self.book_with("page m inner 5.1 to 1.1 pass 2.0 then m", "page m inner 3.1 to 1.1 pass 1.0 then m")
        row = ((4, 1), (1, 1), (1, 1), (2, 1), (2, 2))
        self.assertEqual(new_row(book, row, "pushl"), ((1, 1), (1, 1), (2, 1), (2, 1), (2, 2)))
        self.assertEqual(touched(book, row, "pushl"), (0, 1, 2))

    def book_with(self, *pages):
        """A book with these pages that takes many rows."""
        reads = [f"read {state} {left}.{right} o" for state in "so" for left in range(5) for right in range(1, 3)]
        return Book.from_lines("arity 2", "first s", "ends o", *[f"start {deed} m" for deed in DEEDS], *reads, *pages)

    def test_the_empty_row(self):
        self.assertEqual([new_row(PAIRS, (), deed) for deed in ("pushl", "pushr")], [((1, 0),), ((0, 1),)])
        self.assertEqual(
            [touched(PAIRS, (), "pushl"), broken_at(PAIRS, (), "pushr"), is_done(PAIRS, (), "pushl")],
            [(0,), None, True],
        )
        self.assertEqual(steps(PAIRS, (), "pushr"), (("last", (0, 1), ((0, 1), (0, 0), "m")),))
        self.assertEqual(
            [new_row(PAIRS, ((1, 0),), "popl"), is_done(PAIRS, ((0, 1),), "popl"), new_row(PAIRS, ((1, 0),), "popr")],
            [(), True, ()],
        )
        for function in ONE_ROW:
            for deed in ("popl", "popr"):
                check_raises(self, EmptySequence, lambda: function(PAIRS, (), deed), deed)

    def test_200_levels(self):
        row = ((3, 3),) * 199 + ((2, 2),)
        self.assertEqual(new_row(PAIRS, row, "pushl"), ((2, 3),) * 199 + ((3, 2),))
        self.assertEqual(touched(PAIRS, row, "pushr"), tuple(range(200)))
        # One level more is as right as any.
        row = ((3, 3),) * 200
        self.assertEqual(
            [new_row(PAIRS, row, "pushl"), is_done(PAIRS, row, "pushl")], [((2, 3),) * 200 + ((1, 0),), True],
        )
        self.assertEqual(lengths_along(PAIRS, row, ("pushl", "popl", "popr"))[1:3], (size(2, row) + 1, size(2, row)))
        row = ((1, 1),) * 199 + ((0, 1),)
        self.assertEqual(new_row(PAIRS, row, "popl"), ((2, 1),) * 199)
        self.assertEqual(
            [len(touched(PAIRS, row, "popl")), len(steps(PAIRS, row, "popr")), is_done(PAIRS, row, "popl")],
            [200, 200, True],
        )
        self.assertEqual([broken_at(LESS, row, "popl"), len(touched(LESS, row, "popl"))], [199, 200])

    def test_wrong_values(self):
        for function in ONE_ROW:
            check_first_error(self, function, (PAIRS, ((1, 1),), "popl"), (NO_BOOKS[:3], NO_ROWS[:5], NO_DEEDS[:5]))
            for value, error in NO_ROWS:
                check_raises(self, error, lambda: function(PAIRS, value, "pushl"))
            for value, error in NO_DEEDS:
                check_raises(self, error, lambda: function(PAIRS, (), value))
                check_raises(self, error, lambda: function(PAIRS, ((1, 1),), value))

    def test_values_of_every_kind(self):
        for function in ONE_ROW:
            for value in odd_values():
                with self.subTest(function=function.__name__, value=value):
                    if not isinstance(value, Book):
                        check_raises(self, InvalidBook, lambda: function(value, ((1, 1),), "popl"))
                    if value not in ((), ((1, 2),)):
                        check_raises(self, InvalidRow, lambda: function(PAIRS, value, "popl"))
                    check_raises(self, InvalidOperation, lambda: function(PAIRS, (), value))


class ManyDeeds(unittest.TestCase):
    def test_of_the_document(self):
        self.assertEqual(row_after(PAIRS, (), ("pushl",) * 5), ((3, 2),))
        self.assertEqual(lengths_along(PAIRS, ((0, 2),), ("popr", "popr", "pushr")), (2, 1, 0, 1))

    def test_by_single_deeds(self):
        rng = random.Random(9)
        ends = {"done": 0, "broken": 0, "empty": 0}
        for book in some_books():
            for _ in range(6):
                row = rng.choice(right_rows(book.reader, 2))
                deeds = tuple(rng.choice(DEEDS[rng.randint(0, 2):]) for _ in range(rng.randint(0, 12)))
                at, lengths = row, [size(book.arity, row)]
                expected = None
                for deed in deeds:
                    if at == () and deed in ("popl", "popr"):
                        expected = (EmptySequence, deed)
                        break
                    if not is_done(book, at, deed):
                        expected = (Broken, at)
                        break
                    at = new_row(book, at, deed)
                    lengths.append(size(book.arity, at))
                if expected is None:
                    ends["done"] += 1
                    self.assertEqual(row_after(book, row, deeds), at)
                    self.assertEqual(lengths_along(book, row, deeds), tuple(lengths))
                else:
                    ends["broken" if expected[0] is Broken else "empty"] += 1
                    check_raises(self, expected[0], lambda: row_after(book, row, deeds), expected[1])
                    check_raises(self, expected[0], lambda: lengths_along(book, row, deeds), expected[1])
        self.assertGreater(min(ends.values()), 30)

    def test_no_deeds(self):
        for row in ((), ((3, 3),), ((1, 1),) * 200):
            self.assertEqual(row_after(PAIRS, row, ()), row)
            self.assertEqual(lengths_along(PAIRS, row, ()), (size(2, row),))

    def test_1000_deeds_at_most(self):
        row = row_after(PAIRS, (), ("pushl", "pushr") * 500)
        self.assertEqual((size(2, row), PAIRS.is_right(row)), (1000, True))
        self.assertEqual(lengths_along(PAIRS, row, ("popr",) * 1000), tuple(range(1000, -1, -1)))
        self.assertEqual(len(lengths_along(TRIPLES, ((1, 1),) * 199 + ((0, 1),), ("pushl",) * 1000)), 1001)
        for many in (1001, 1002, 3000):
            check_raises(self, InvalidOperation, lambda: row_after(PAIRS, (), ("pushl",) * many))
            check_raises(self, InvalidOperation, lambda: lengths_along(PAIRS, (), ("popl",) * many))

    def test_the_first_deed_that_cannot_be_done_or_fails(self):
        for function in (row_after, lengths_along):
            check_raises(self, EmptySequence, lambda: function(PAIRS, (), ("pushl", "popr", "popl", "popr")), "popl")
            check_raises(self, EmptySequence, lambda: function(LESS, (), ("popr", "pushr", "popl")), "popr")
            check_raises(self, Broken, lambda: function(LESS, (), ("pushr", "popl", "popl")), ((0, 1),))
            check_raises(self, Broken, lambda: function(LESS, ((1, 1), (0, 1)), ("popl",)), ((1, 1), (0, 1)))

    def test_wrong_values(self):
        no_deeds = [(value, InvalidOperation) for value in (
            "pushl", None, ["pushl"], ("pushl", "push"), ("pushl", None), (("pushl",),), ("pushl",) * 1001,
            {"pushl": 1}, 1, ("popl", ["popl"]),
        )]
        for function in (row_after, lengths_along):
            check_first_error(self, function, (PAIRS, ((1, 1),), ("popl",)), (NO_BOOKS[:3], NO_ROWS[:4], no_deeds))
            # What is no tuple of deeds is refused ahead of a deed that cannot be done.
            check_raises(self, InvalidOperation, lambda: function(PAIRS, (), ("popl", "x")))
            for value in odd_values():
                with self.subTest(function=function.__name__, value=value):
                    if value != ():
                        check_raises(self, InvalidOperation, lambda: function(PAIRS, (), value))
                    if value not in ((), ((1, 2),)):
                        check_raises(self, InvalidRow, lambda: function(PAIRS, value, ()))
                    if not isinstance(value, Book):
                        check_raises(self, InvalidBook, lambda: function(value, (), ()))


if __name__ == "__main__":
    unittest.main()
