"""Promise 9.1 and the interface of fingerbooks.seq.sequences."""

import random
import unittest

from fingerbooks.book.books import DEEDS, Book
from fingerbooks.deeds.rows import is_done, new_row
from fingerbooks.errors import (
    Broken, EmptySequence, InvalidBook, InvalidNumber, InvalidOperation, InvalidRow, NothingToUndo, TooMany,
)
from fingerbooks.seq import sequences
from fingerbooks.seq.places import place_of
from fingerbooks.seq.sequences import Sequence
from tests import bundles
from tests.books import (
    FORMS, LESS, PAIRS, TIGHT, TRIPLES, changed_book, content_of, random_book, right_rows, size, wide,
)
from tests.checks import check_first_error, check_raises
from tests.values import odd_values

SIX = Sequence(PAIRS, (1, 2, 3, 4, 5, 6))
GREAT = 10 ** 60 - 1
NO_INTEGERS = (True, False, None, "1", "", (1,), [1], {}, 10 ** 60, -(10 ** 60), 10 ** 99, PAIRS)
NO_BOOKS = [(value, InvalidBook) for value in (None, PAIRS.reader, PAIRS.lines, "book", SIX)]
NO_CONTENTS = [(value, InvalidOperation) for value in (
    None, [1, 2], "12", 1, {1: 2}, (1, True), (1, None), (1, "2"), ((1,),), (1, 10 ** 60), (1,) * 5001, SIX, range(3),
)]


def do(sequence, deed, element):
    """The sequence behind a deed."""
    call = getattr(sequence, deed)
    return call(element) if deed.startswith("push") else call()


def some_books():
    rng = random.Random(12)
    found = [PAIRS, TIGHT, LESS, TRIPLES, wide(), wide().mirrored()]
    found += [changed_book(rng, rng.choice((PAIRS, TRIPLES, wide())), rng.randint(1, 8)) for _ in range(12)]
    return found + [random_book(rng, rng.choice((2, 3)), FORMS[:3] + FORMS[8:11], 150) for _ in range(20)]


class Interface(unittest.TestCase):
    def test_constants(self):
        self.assertEqual(sequences.MAX_CONTENT, 5000)

    def test_all_is_defined_here(self):
        self.assertEqual(Sequence.__module__, "fingerbooks.seq.sequences")
        for name in ("book", "outline", "content", "left_end", "right_end"):
            self.assertIsInstance(vars(Sequence)[name], property)
        for name in (
            "of_row", "pushl", "pushr", "popl", "popr", "__getitem__", "with_nth", "sides", "mirrored", "elder",
            "__contains__",
            "__len__", "__bool__", "__iter__", "__eq__", "__str__",
        ):
            self.assertIn(name, vars(Sequence))


class Making(unittest.TestCase):
    def test_by_puts_at_the_right_end(self):
        for book in (PAIRS, TIGHT, TRIPLES):
            sequence, row = Sequence(book), ()
            self.assertEqual((sequence.content, sequence.outline, sequence.book), ((), (), book))
            for number in range(60):
                row = new_row(book, row, "pushr")
                sequence = sequence.pushr(number)
                made = Sequence(book, tuple(range(number + 1)))
                self.assertEqual((made.outline, made.content), (row, tuple(range(number + 1))))
                self.assertEqual(sequence, made)

    def test_the_first_put_that_fails(self):
        book = PAIRS.without("page m last 1.4 to 1.2 pass 0.1 then m")
        self.assertEqual(Sequence(book, (1, 2, 3)).outline, ((0, 3),))
        self.assertEqual(Sequence(book, (1, 2, 3, 4, 5)).outline, ((2, 3),))
        broken = PAIRS.without("page m last 0.4 to 2.2 pass 0.0 then m")
        check_raises(self, Broken, lambda: Sequence(broken, (1, 2, 3, 4, 5)), ((0, 3),))
        wrong = PAIRS.without("read s 0.3 e")
        check_raises(self, Broken, lambda: Sequence(wrong, (1, 2, 3, 4)), ((0, 2),))
        check_raises(self, InvalidOperation, lambda: Sequence(wrong, (1, 2, 3, None)))

    def test_5000_at_most(self):
        sequence = Sequence(PAIRS, tuple(range(5000)))
        self.assertEqual((len(sequence), size(2, sequence.outline)), (5000, 5000))
        for deed in ("pushl", "pushr"):
            check_raises(self, TooMany, lambda: do(sequence, deed, 1), 5000)
            check_raises(self, InvalidOperation, lambda: do(sequence, deed, True))
        self.assertEqual(len(sequence.popl().pushr(1)), 5000)
        self.assertEqual(sequence.elder(many=5000), Sequence(PAIRS))
        check_raises(self, InvalidOperation, lambda: Sequence(PAIRS, (1,) * 5001))
        row = sequence.outline
        other = Sequence.of_row(PAIRS, row, (1,) * 5000)
        check_raises(self, TooMany, lambda: other.pushl(2), 5000)
        check_raises(self, InvalidOperation, lambda: Sequence.of_row(PAIRS, new_row(PAIRS, row, "pushl"), (1,) * 5001))

    def test_of_row(self):
        for book in some_books():
            for row in right_rows(book.reader, 2)[:12]:
                content = content_of(book.arity, row)
                sequence = Sequence.of_row(book, row, content)
                self.assertIs(type(sequence), Sequence)
                self.assertEqual((sequence.book, sequence.outline, sequence.content), (book, row, content))
        self.assertEqual(Sequence.of_row(PAIRS, ((2, 2), (0, 1)), (1, 2, 3, 4, 5, 6)), SIX)
        self.assertEqual(Sequence.of_row(LESS, (), ()), Sequence(LESS))

    def test_of_row_with_other_content(self):
        no_rows = [
            (value, InvalidRow) for value in (
                ((0, 0),), ((0, 1), (1, 1)), ((4, 1),), [(1, 1)], None, ((1, 1),) * 201, SIX,
            )
        ]
        no_contents = NO_CONTENTS + [((), InvalidOperation), ((1, 2, 3), InvalidOperation), ((1,), InvalidOperation)]
        check_first_error(self, Sequence.of_row, (PAIRS, ((1, 1),), (1, 2)), (NO_BOOKS[:3], no_rows[:4], no_contents))
        for value, error in no_rows:
            check_raises(self, error, lambda: Sequence.of_row(PAIRS, value, (1, 2)))
        check_raises(self, InvalidOperation, lambda: Sequence.of_row(PAIRS, ((3, 3),) * 200, (1,) * 5000))
        check_raises(self, InvalidOperation, lambda: Sequence.of_row(PAIRS, (), (1,)))

    def test_wrong_values(self):
        check_first_error(self, Sequence, (PAIRS, (1, 2)), (NO_BOOKS, NO_CONTENTS))
        check_raises(self, InvalidBook, lambda: Sequence(None))
        for value in odd_values():
            with self.subTest(value=value):
                if not isinstance(value, Book):
                    check_raises(self, InvalidBook, lambda: Sequence(value))
                    check_raises(self, InvalidBook, lambda: Sequence.of_row(value, (), ()))
                if value not in ((), ((1, 2),)):
                    check_raises(self, InvalidRow, lambda: Sequence.of_row(PAIRS, value, ()))
                if value != ():
                    check_raises(self, InvalidOperation, lambda: Sequence.of_row(PAIRS, (), value))
                is_content = type(value) is tuple and all(type(part) is int and abs(part) < 10 ** 60 for part in value)
                if is_content:
                    self.assertEqual(Sequence(PAIRS, value).content, value)
                else:
                    check_raises(self, InvalidOperation, lambda: Sequence(PAIRS, value))

    def test_never_changes(self):
        for name in ("book", "outline", "content", "left_end", "right_end"):
            with self.assertRaises(AttributeError):
                setattr(SIX, name, None)
        shown = (SIX.outline, SIX.content)
        for deed in DEEDS:
            do(SIX, deed, 9)
        SIX.with_nth(0, 9), SIX.mirrored(), SIX.elder(many=3)
        self.assertEqual((SIX.outline, SIX.content), shown)

    def test_elements(self):
        content = (GREAT, -GREAT, 0, -1, 5, 5)
        self.assertEqual(Sequence(PAIRS, content).content, content)
        self.assertEqual((SIX.left_end, SIX.right_end), (1, 6))
        self.assertEqual((Sequence(PAIRS, (7,)).left_end, Sequence(PAIRS, (7,)).right_end), (7, 7))
        self.assertEqual((Sequence(PAIRS).left_end, Sequence(PAIRS).right_end), (None, None))


class Deeds(unittest.TestCase):
    def test_as_real_bundles_go(self):
        rng = random.Random(13)
        ends = {"done": 0, "broken": 0, "empty": 0}
        for book in some_books():
            for _ in range(8):
                row = rng.choice(right_rows(book.reader, 2))
                sequence = Sequence.of_row(book, row, content_of(book.arity, row))
                for number in range(12):
                    deed = rng.choice(DEEDS)
                    if sequence.outline == () and deed.startswith("pop"):
                        ends["empty"] += 1
                        check_raises(self, EmptySequence, lambda: do(sequence, deed, number), deed)
                        continue
                    if not is_done(book, sequence.outline, deed):
                        ends["broken"] += 1
                        check_raises(self, Broken, lambda: do(sequence, deed, number), sequence.outline)
                        continue
                    ends["done"] += 1
                    levels = bundles.filled(book.arity, sequence.outline, sequence.content)
                    levels, _ = bundles.deed_done(book, levels, deed, number)
                    sequence = do(sequence, deed, number)
                    self.assertIs(type(sequence), Sequence)
                    self.assertEqual(sequence.content, tuple(bundles.order(levels)))
                    self.assertEqual(sequence.outline, tuple((len(left), len(right)) for left, right in levels))
                    for level, sides in enumerate(levels):
                        flat = tuple(tuple(tuple(bundles.flat(bundle)) for bundle in side) for side in sides)
                        self.assertEqual(sequence.sides(level), flat)
        self.assertGreater(min(ends.values()), 20)

    def test_takes_behind_puts_give_back_the_elements(self):
        sequence = Sequence(TRIPLES)
        for number in range(100):
            sequence = sequence.pushl(number)
        self.assertEqual(sequence.content, tuple(range(99, -1, -1)))
        for number in range(99, -1, -1):
            self.assertEqual(sequence.left_end, number)
            sequence = sequence.popl()
        self.assertEqual(sequence, Sequence(TRIPLES))

    def test_of_the_document(self):
        self.assertEqual(
            [SIX.outline, SIX.sides(0), SIX.sides(1)],
            [((2, 2), (0, 1)), (((1,), (2,)), ((5,), (6,))), ((), ((3, 4),))],
        )
        self.assertEqual(SIX.popl().popl().popl().outline, ((1, 2),))
        self.assertEqual(SIX.pushl(0).popl(), SIX)

    def test_integers_only(self):
        for value in NO_INTEGERS:
            for deed in ("pushl", "pushr"):
                check_raises(self, InvalidOperation, lambda: do(SIX, deed, value))
        for value in odd_values():
            if type(value) is int and abs(value) <= GREAT:
                self.assertEqual((SIX.pushl(value).left_end, SIX.pushr(value).right_end), (value, value))
            else:
                check_raises(self, InvalidOperation, lambda: SIX.pushl(value))
                check_raises(self, InvalidOperation, lambda: SIX.pushr(value))

    def test_takes_from_nothing(self):
        check_raises(self, EmptySequence, Sequence(PAIRS).popl, "popl")
        check_raises(self, EmptySequence, Sequence(PAIRS).popr, "popr")
        check_raises(self, EmptySequence, Sequence.of_row(LESS, (), ()).popl, "popl")

    def test_deeds_that_fail(self):
        check_raises(self, Broken, Sequence(LESS, (1,)).popl, ((0, 1),))
        self.assertEqual(Sequence(LESS, (1,)).popr().content, ())
        loose = PAIRS.without("page m inner 0.2 to 2.2 pass -1.0 then m")
        check_raises(self, Broken, Sequence.of_row(loose, ((1, 2), (0, 1)), (1, 2, 3, 4, 5)).popl, ((1, 2), (0, 1)))
        broken = PAIRS.without("page m last 0.4 to 2.2 pass 0.0 then m")
        self.assertEqual(Sequence(PAIRS, (1, 2, 3, 4)).outline, ((2, 2),))
        check_raises(self, Broken, lambda: Sequence(broken.without("read s 0.2 e"), ()).pushr(1).pushr(2), ((0, 1),))
        # The element is judged ahead of the deed.
        check_raises(self, InvalidOperation, lambda: Sequence(broken.without("read s 0.2 e"), (1,)).pushr(None))


class Looking(unittest.TestCase):
    def test_index(self):
        for sequence in (SIX, Sequence(TRIPLES, tuple(range(50, 90)))):
            self.assertEqual([sequence[index] for index in range(len(sequence))], list(sequence.content))
            for index in (
                -1, len(sequence), len(sequence) + 1, True, False, None, "0", (0,), 10 ** 59, 10 ** 60, slice(0, 1),
            ):
                with self.assertRaises(InvalidNumber) as caught:
                    sequence[index]
                self.assertIs(caught.exception.value, index)
        check_raises(self, InvalidNumber, lambda: Sequence(PAIRS)[0], 0)
        for value in odd_values():
            if type(value) is not int or not 0 <= value < 6:
                check_raises(self, InvalidNumber, lambda: SIX[value], value)

    def test_with_nth(self):
        self.assertEqual(SIX.with_nth(2, 7).content, (1, 2, 7, 4, 5, 6))
        for index in range(6):
            other = SIX.with_nth(index, -9)
            self.assertEqual(other.content, SIX.content[:index] + (-9,) + SIX.content[index + 1:])
            self.assertEqual((other.outline, other.book), (SIX.outline, PAIRS))
        no_indexes = [(value, InvalidNumber) for value in (-1, 6, True, False, None, "0", (0,), 10 ** 60, PAIRS)]
        no_elements = [(value, InvalidOperation) for value in NO_INTEGERS]
        check_first_error(self, SIX.with_nth, (0, 7), (no_indexes, no_elements))
        check_raises(self, InvalidNumber, lambda: Sequence(PAIRS).with_nth(0, 1), 0)

    def test_sides(self):
        for book in (PAIRS, TRIPLES, wide()):
            for row in right_rows(book.reader, 3)[::7]:
                content = content_of(book.arity, row)
                sequence = Sequence.of_row(book, row, content)
                levels = bundles.filled(book.arity, row, content)
                for level, sides in enumerate(levels):
                    flat = tuple(tuple(tuple(bundles.flat(bundle)) for bundle in side) for side in sides)
                    self.assertEqual(sequence.sides(level), flat)
        self.assertEqual(SIX.sides(1), ((), ((3, 4),)))
        for level in (-1, 2, 3, True, False, None, "0", (0,), [0], 10 ** 59, 10 ** 60, PAIRS):
            check_raises(self, InvalidNumber, lambda: SIX.sides(level), level)
        check_raises(self, InvalidNumber, lambda: Sequence(PAIRS).sides(0), 0)
        for value in odd_values():
            if type(value) is not int or value not in (0, 1):
                check_raises(self, InvalidNumber, lambda: SIX.sides(value), value)

    def test_places(self):
        row = ((1, 2), (0, 0), (2, 1))
        book = wide().with_line("read o 0.0 i").with_line("read i 2.1 o").with_line("read s 1.2 i")
        sequence = Sequence.of_row(book, row, content_of(2, row))
        for number, element in enumerate(sequence):
            level, side, index, path = place_of(2, row, number)
            bundle = sequence.sides(level)[("left", "right").index(side)][index]
            self.assertEqual(len(bundle), 2 ** level)
            self.assertEqual(bundle[sum(part * 2 ** (level - 1 - at) for at, part in enumerate(path))], element)

    def test_elements_are_in_it(self):
        for value in (1, 6, 3):
            self.assertIs(value in SIX, True)
        for value in (0, 7, True, False, None, "1", (1,), 10 ** 60, PAIRS):
            self.assertIs(value in SIX, False)
        ones = Sequence(PAIRS, (1, 0, GREAT))
        for value in odd_values():
            self.assertIs(value in ones, type(value) is int and value in (0, 1, GREAT))
        self.assertIs(0 in Sequence(PAIRS), False)

    def test_len_bool_and_iterating(self):
        for many in (0, 1, 2, 9):
            sequence = Sequence(PAIRS, tuple(range(many)))
            self.assertEqual(
                (len(sequence), list(sequence), list(iter(sequence))), (many, list(range(many)), list(range(many))),
            )
            self.assertIs(bool(sequence), many > 0)
        self.assertIs(bool(Sequence(PAIRS, (0,))), True)

    def test_equality(self):
        self.assertTrue(SIX == Sequence(PAIRS, (1, 2, 3, 4, 5, 6)))
        self.assertFalse(SIX != Sequence.of_row(PAIRS, ((2, 2), (0, 1)), (1, 2, 3, 4, 5, 6)))
        for other in (
            Sequence(PAIRS, (1, 2, 3, 4, 5, 7)), Sequence(PAIRS, (1, 2, 3, 4, 5)),
            Sequence.of_row(PAIRS, ((3, 3),), (1, 2, 3, 4, 5, 6)),
            Sequence.of_row(LESS, ((2, 2), (0, 1)), (1, 2, 3, 4, 5, 6)), Sequence(PAIRS), SIX.mirrored(),
        ):
            self.assertIs(SIX == other, False)
            self.assertIs(SIX != other, True)
        for value in odd_values() + [SIX.content, list(SIX), SIX.outline]:
            self.assertIs(SIX == value, False)
            self.assertIs(SIX != value, True)

    def test_str(self):
        self.assertEqual(
            [str(SIX), str(Sequence(PAIRS)), str(Sequence(PAIRS, (1,)))],
            [
                "sequence of 6 elements, 2 levels", "sequence of 0 elements, 0 levels",
                "sequence of 1 elements, 1 levels",
            ],
        )


class Mirrored(unittest.TestCase):
    def test_mirrored(self):
        for book in some_books():
            for row in right_rows(book.reader, 2)[:10]:
                sequence = Sequence.of_row(book, row, content_of(book.arity, row))
                mirrored = sequence.mirrored()
                self.assertEqual((mirrored.book, mirrored.content), (book.mirrored(), sequence.content[::-1]))
                self.assertEqual(mirrored.outline, tuple((right, left) for left, right in row))
                self.assertEqual(mirrored.mirrored(), sequence)
                for level in range(len(row)):
                    left, right = sequence.sides(level)
                    expected = tuple(tuple(bundle[::-1] for bundle in side[::-1]) for side in (right, left))
                    self.assertEqual(mirrored.sides(level), expected)
        self.assertEqual(SIX.mirrored().sides(1), (((4, 3),), ()))
        self.assertEqual(Sequence(LESS).mirrored(), Sequence(LESS.mirrored()))

    def test_mirrored_deeds(self):
        sequence = Sequence(LESS, (1,))
        check_raises(self, Broken, sequence.mirrored().popr, ((1, 0),))
        self.assertEqual(sequence.mirrored().popl().content, ())


class Elders(unittest.TestCase):
    def test_as_far_back_as_there_are_calls(self):
        rng = random.Random(14)
        for book in (PAIRS, TRIPLES):
            for _ in range(20):
                content = tuple(rng.randint(0, 99) for _ in range(rng.randint(0, 12)))
                made = [Sequence(book, content[:many]) for many in range(len(content) + 1)]
                for _ in range(rng.randint(0, 25)):
                    deed = rng.choice(DEEDS)
                    if made[-1] or deed.startswith("push"):
                        made.append(do(made[-1], deed, rng.randint(0, 99)))
                for many in range(len(made)):
                    elder = made[-1].elder(many=many)
                    self.assertIs(type(elder), Sequence)
                    self.assertEqual((elder, elder.outline), (made[-1 - many], made[-1 - many].outline))
                    self.assertEqual(elder.elder(many=len(made) - 1 - many), Sequence(book))
                    check_raises(self, NothingToUndo, lambda: elder.elder(many=len(made) - many), len(made) - many)
                if len(made) > 1:
                    self.assertEqual(made[-1].elder(), made[-2])
                else:
                    check_raises(self, NothingToUndo, made[-1].elder, 1)

    def test_of_the_document(self):
        self.assertEqual(SIX.elder(many=4).content, (1, 2))
        self.assertEqual([SIX.elder(many=0), SIX.elder(many=6)], [SIX, Sequence(PAIRS)])
        check_raises(self, NothingToUndo, lambda: SIX.elder(many=7), 7)
        check_raises(self, NothingToUndo, lambda: SIX.elder(many=GREAT), GREAT)

    def test_what_has_none(self):
        row = ((2, 2), (0, 1))
        for sequence in (
            Sequence.of_row(PAIRS, row, (1, 2, 3, 4, 5, 6)), SIX.with_nth(0, 1), SIX.mirrored(), Sequence(PAIRS),
        ):
            self.assertEqual(sequence.elder(many=0), sequence)
            for many in (1, 2, 6):
                check_raises(self, NothingToUndo, lambda: sequence.elder(many=many), many)
            further = sequence.pushl(8).popr()
            self.assertEqual(further.elder(many=2), sequence)
            check_raises(self, NothingToUndo, lambda: further.elder(many=3), 3)

    def test_only_calls_that_were_made_are_counted(self):
        sequence = Sequence(PAIRS, (1,))
        check_raises(self, InvalidOperation, lambda: sequence.pushl(None))
        self.assertEqual(sequence.popl().pushr(2).elder(many=2).content, (1,))
        self.assertEqual(sequence.elder(many=1).pushr(5).elder(many=1), Sequence(PAIRS))

    def test_elders_can_be_put_to(self):
        self.assertEqual(SIX.elder(many=3).pushl(0).content, (0, 1, 2, 3))
        self.assertEqual(SIX.elder(many=3).pushl(0).elder(many=2).content, (1, 2))

    def test_a_long_past(self):
        sequence = Sequence(PAIRS)
        for number in range(20000):
            sequence = sequence.pushl(number) if number % 2 == 0 else sequence.popr()
        self.assertEqual(sequence.elder(many=19999).content, (0,))
        self.assertEqual(sequence.elder(many=20000), Sequence(PAIRS))

    def test_wrong_values(self):
        for value in (-1, -GREAT, True, False, None, "1", (1,), [1], {}, 10 ** 60, PAIRS):
            check_raises(self, InvalidNumber, lambda: SIX.elder(many=value), value)
        for value in odd_values():
            if type(value) is not int or value < 0 or value > GREAT:
                check_raises(self, InvalidNumber, lambda: SIX.elder(many=value), value)
            elif value > 6:
                check_raises(self, NothingToUndo, lambda: SIX.elder(many=value), value)
        with self.assertRaises(TypeError):
            SIX.elder(1)


if __name__ == "__main__":
    unittest.main()
