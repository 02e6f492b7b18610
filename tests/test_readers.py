"""Promises 0.9 and 3.1 and the interface of fingerbooks.read.readers."""

import copy
import itertools
import random
import unittest

from fingerbooks.errors import InvalidNumber, InvalidOperation, InvalidReader, InvalidRow, ParseError
from fingerbooks.read import readers
from fingerbooks.read.readers import Reader, is_including, parting_row
from tests.books import FORMS, PAIRS, TIGHT, random_reader, right_rows, size
from tests.checks import check_first_error, check_raises
from tests.values import odd_values

LINES = ("first s", "ends e o", "read o 0.0 x", "read s 1.1 o", "read s 2.1 e")
SIX = {("s", (1, 0)): "a", ("a", (1, 0)): "b", ("b", (1, 0)): "c", ("c", (1, 0)): "d", ("d", (1, 0)): "e"}
NO_NAMES = ("", "S", "ninechars", "s ", "1", 1, True, None, ("s",), ["s"], {"s": 1}, 10 ** 60, PAIRS)
NO_FORMS = (
    (8, 0), (0, 8), (-1, 0), (True, 0), (0, False), (1,), (1, 1, 1), "1.1", None, 1, (), (10 ** 60, 0), ("1", "1"),
)
ONLY_EMPTY = (
    Reader("s", ("e",), {}),
    Reader("s", ("e",), {("s", (1, 1)): "o", ("o", (1, 1)): "o"}),
    Reader("s", ("e", "f"), {("e", (1, 1)): "f", ("f", (1, 1)): "e", ("s", (0, 0)): "a"}),
)


def reads_many(many, states="abc"):
    """So many reads, of which the first one is from the first state."""
    places = [("s", form) for form in FORMS[1:]] + [(state, form) for state in states for form in FORMS[1:]]
    return {place: "a" for place in places[:many]}


def read_lines(reads):
    return [f"read {state} {left}.{right} {after}" for (state, (left, right)), after in reads.items()]


class Interface(unittest.TestCase):
    def test_constants(self):
        self.assertEqual((readers.MAX_STATES, readers.MAX_READS), (6, 60))

    def test_all_is_defined_here(self):
        for thing in (Reader, is_including, parting_row):
            self.assertEqual(thing.__module__, "fingerbooks.read.readers")
        for name in (
            "from_lines", "first", "ends", "reads", "states", "forms", "lines", "behind", "takes", "mirrored", "spare",
            "least", "__len__", "__eq__", "__str__",
        ):
            self.assertIn(name, vars(Reader))
        for name in ("first", "ends", "reads", "states", "forms", "lines", "spare"):
            self.assertIsInstance(vars(Reader)[name], property)


class Making(unittest.TestCase):
    def test_parts(self):
        reader = Reader(
            "s", ("e", "o"), {("s", (2, 1)): "e", ("o", (0, 0)): "z", ("s", (1, 1)): "o", ("o", (1, 1)): "z"},
        )
        self.assertEqual((reader.first, reader.ends), ("s", ("e", "o")))
        self.assertEqual(reader.states, ("e", "o", "s", "z"))
        self.assertEqual(reader.forms, ((0, 0), (1, 1), (2, 1)))
        self.assertEqual(len(reader), 4)

    def test_a_line_leads_to_a_state_that_ends_only_with_bundles(self):
        check_raises(self, InvalidReader, lambda: Reader("s", ("e", "o"), {("s", (1, 1)): "o", ("o", (0, 0)): "o"}))
        check_raises(self, InvalidReader, lambda: Reader("s", ("e",), {("s", (0, 0)): "e"}))
        self.assertEqual(Reader("s", ("e",), {("s", (0, 0)): "o"}).states, ("e", "o", "s"))
        for form in FORMS[1:]:
            self.assertEqual(Reader("s", ("e",), {("s", form): "e"}).forms, (form,))

    def test_the_first_state_does_not_end_and_no_line_leads_to_it(self):
        for first, ends, reads in (
            ("s", ("s",), {}), ("s", ("e", "s"), {}), ("s", ("e",), {("s", (1, 1)): "s"}),
            ("s", ("e",), {("s", (1, 1)): "e", ("e", (1, 1)): "s"}), ("s", ("e",), {("a", (0, 0)): "s"}),
        ):
            check_raises(self, InvalidReader, lambda: Reader(first, ends, reads))

    def test_states_that_end(self):
        for ends in (
            (), ("o", "e"), ("e", "e"), ("e", "o", "o"), ["e", "o"], "e", {"e": "o"}, None, 1, True, ("e", 1),
            ("e", None),
            ("E",), ("",), ("ninechars",), (("e",),), (("e", "o"),), PAIRS,
        ):
            with self.subTest(ends=ends):
                check_raises(self, InvalidReader, lambda: Reader("s", ends, {}))
        self.assertEqual(Reader("s", ("e", "ee", "f"), {}).ends, ("e", "ee", "f"))

    def test_six_states_at_most(self):
        self.assertEqual(len(Reader("s", ("e",), SIX)), 6)
        self.assertEqual(Reader("s", ("a", "b", "c", "d", "e"), {}).states, ("a", "b", "c", "d", "e", "s"))
        check_raises(self, InvalidReader, lambda: Reader("s", ("e", "f"), SIX))
        check_raises(self, InvalidReader, lambda: Reader("s", ("a", "b", "c", "d", "e", "f"), {}))
        check_raises(self, InvalidReader, lambda: Reader("t", ("e",), SIX))
        check_raises(self, InvalidReader, lambda: Reader("s", ("e",), SIX | {("f", (1, 0)): "a"}))
        check_raises(self, InvalidReader, lambda: Reader("s", ("e",), SIX | {("a", (1, 1)): "f"}))

    def test_sixty_reads_at_most(self):
        for many in (0, 1, 59, 60):
            self.assertEqual(len(Reader("s", ("z",), reads_many(many)).reads), many)
        for many in (61, 62, 150):
            check_raises(self, InvalidReader, lambda: Reader("s", ("z",), reads_many(many)))

    def test_wrong_values(self):
        for wrong in NO_NAMES:
            with self.subTest(wrong=wrong):
                check_raises(self, InvalidReader, lambda: Reader(wrong, ("e",), {}))
                check_raises(self, InvalidReader, lambda: Reader("s", ("e",), {("s", (1, 1)): wrong}))
                if not isinstance(wrong, (list, dict)) and wrong is not PAIRS:
                    check_raises(self, InvalidReader, lambda: Reader("s", ("e",), {(wrong, (1, 1)): "e"}))
        for wrong in NO_FORMS:
            with self.subTest(wrong=wrong):
                check_raises(self, InvalidReader, lambda: Reader("s", ("e",), {("s", wrong): "e"}))
        for place in ("s", ("s",), ("s", (1, 1), (1, 1)), ((1, 1), "s"), 1, None, (), "s 1.1"):
            check_raises(self, InvalidReader, lambda: Reader("s", ("e",), {place: "e"}))
        for reads in (None, (), [], [(("s", (1, 1)), "e")], "s 1.1 e", 1, ("s", (1, 1))):
            check_raises(self, InvalidReader, lambda: Reader("s", ("e",), reads))

    def test_values_of_every_kind(self):
        for value in odd_values():
            with self.subTest(value=value):
                if value not in ("a", "abcdefgh"):
                    check_raises(self, InvalidReader, lambda: Reader(value, ("e",), {}))
                if value != ("a", "b"):
                    check_raises(self, InvalidReader, lambda: Reader("s", value, {}))
                if value != {}:
                    check_raises(self, InvalidReader, lambda: Reader("s", ("e",), value))
                check_raises(self, InvalidReader, lambda: Reader(value, value, value))

    def test_shares_no_state_and_never_changes(self):
        reads = {("s", (1, 1)): "e"}
        reader = Reader("s", ("e",), reads)
        lines = reader.lines
        reads[("s", (2, 2))] = "e"
        reader.reads[("s", (3, 3))] = "e"
        reader.reads.clear()
        self.assertEqual((reader.reads, reader.lines), ({("s", (1, 1)): "e"}, lines))
        self.assertTrue(reader.takes(((1, 1),)))
        self.assertFalse(reader.takes(((2, 2),)))
        for name in ("first", "ends", "reads", "states", "forms", "lines", "spare"):
            with self.assertRaises(AttributeError):
                setattr(reader, name, None)

    def test_arguments_are_not_changed(self):
        reads = {("s", (2, 1)): "e", ("s", (1, 1)): "o"}
        Reader("s", ("e",), reads)
        self.assertEqual(list(reads.items()), [(("s", (2, 1)), "e"), (("s", (1, 1)), "o")])


class Lines(unittest.TestCase):
    def test_in_any_order(self):
        expected = Reader("s", ("e", "z"), {("o", (0, 0)): "o", ("s", (1, 1)): "o", ("s", (2, 1)): "e"})
        lines = ("first s", "ends e z", "read o 0.0 o", "read s 1.1 o", "read s 2.1 e")
        for order in itertools.permutations(lines):
            reader = Reader.from_lines(*order)
            self.assertEqual(reader, expected)
            self.assertEqual(reader.lines, lines)

    def test_reads_ascend_by_state_and_form(self):
        reads = [
            f"read {state} {left}.{right} z" for state in ("aa", "b", "ba", "s") for left in (1, 2) for right in (0, 7)
        ]
        for seed in range(20):
            mixed = list(reads)
            random.Random(seed).shuffle(mixed)
            reader = Reader.from_lines(*mixed, "ends z", "first s")
            self.assertEqual(reader.lines, ("first s", "ends z") + tuple(reads))
            self.assertEqual(list(reader.reads), sorted(reader.reads))
            self.assertIs(type(reader.reads), dict)

    def test_there_and_back(self):
        for seed in range(100):
            reader = random_reader(random.Random(seed), "sabcde", FORMS[:20], 0.4)
            self.assertEqual(Reader.from_lines(*reader.lines), reader)
            self.assertEqual(reader.lines[2:], tuple(read_lines(reader.reads)))
            self.assertEqual(reader.lines[:2], ("first " + reader.first, "ends " + " ".join(reader.ends)))

    def test_words_are_names_too(self):
        reader = Reader.from_lines("first first", "ends ends read", "read first 1.1 ends", "read read 0.0 x")
        self.assertEqual(reader.states, ("ends", "first", "read", "x"))

    def test_values_that_are_no_lines(self):
        for line in (
            "", " ", "first", "first ", "first  s", "first s ", " first s", "first s s", "first S", "first s\n",
            "First s",
            "first ninechars", "first 1", "firsts", "ends", "ends ", "ends o e", "ends e e", "ends e  o", "ends e o ",
            "ends e O", "ends e,o", "ends e 1", "read", "read s", "read s 1.1", "read s 1.1 ", "read s 1.1 o ",
            "read s 1.1 o o", "read s  1.1 o", "read s 1.1  o", "read s 8.1 o", "read s 1.8 o", "read s -1.1 o",
            "read s 1.-1 o", "read s 01.1 o", "read s 1.01 o", "read s -0.1 o", "read s 1 o", "read s 1.1.1 o",
            "read s . o",
            "read s (1, 1) o", "read 1.1 s o", "read S 1.1 o", "read s 1.1 O", "read s 1.1 1", "read 1 1.1 o",
            "read ninechars 1.1 o", "read s 1.1 ninechars", "read s\t1.1 o", "read s 1.1 o\n", "Read s 1.1 o",
            "arity 2",
            "start pushl m", "page m inner 4.1 to 2.1 pass 1.0 then m", "line", "s", "read s 1.1 o\nread s 2.1 o",
        ):
            with self.subTest(line=line):
                self.assert_line_is_none(line)

    def test_values_of_every_kind(self):
        for value in odd_values():
            with self.subTest(value=value):
                self.assert_line_is_none(value)

    def assert_line_is_none(self, value):
        check_raises(self, ParseError, lambda: Reader.from_lines(value), 0)
        for at in range(len(LINES) + 1):
            check_raises(self, ParseError, lambda: Reader.from_lines(*LINES[:at], value, *LINES[at:]), at)
        check_raises(self, ParseError, lambda: Reader.from_lines(*LINES, value, value, *LINES), len(LINES))

    def test_second_lines(self):
        lines = ("first s", "ends e o", "read s 1.1 o", "read o 1.1 e")
        for line, place in itertools.product(lines, range(5)):
            mixed = list(lines)
            mixed.insert(place, line)
            second = [at for at, other in enumerate(mixed) if other == line][1]
            check_raises(self, ParseError, lambda: Reader.from_lines(*mixed), second)
            check_raises(self, ParseError, lambda: Reader.from_lines(*mixed, "x", line), second)
        for other in ("first t", "ends e", "ends x y", "read s 1.1 e", "read o 1.1 x"):
            check_raises(self, ParseError, lambda: Reader.from_lines(*lines, other), 4)
        self.assertEqual(len(Reader.from_lines(*lines, "read e 1.1 o", "read s 1.2 o").reads), 4)

    def test_a_missing_line(self):
        for at in (0, 1):
            check_raises(self, InvalidReader, lambda: Reader.from_lines(*LINES[:at], *LINES[at + 1:]))
        for at in (2, 3, 4):
            self.assertEqual(len(Reader.from_lines(*LINES[:at], *LINES[at + 1:]).reads), 2)
        check_raises(self, InvalidReader, lambda: Reader.from_lines())
        self.assertEqual(len(Reader.from_lines("first s", "ends e")), 2)

    def test_lines_of_no_reader(self):
        for lines in (
            ("first s", "ends s"), ("first s", "ends e", "read s 1.1 s"), ("first s", "ends e", "read s 0.0 e"),
            ("first s", "ends a b c d e f"), ("first s", "ends e", *read_lines(reads_many(61))),
        ):
            check_raises(self, InvalidReader, lambda: Reader.from_lines(*lines))
            check_raises(self, ParseError, lambda: Reader.from_lines(*lines, "x"), len(lines))
        self.assertEqual(len(Reader.from_lines("first s", "ends e", *read_lines(reads_many(60))).reads), 60)


class Reading(unittest.TestCase):
    def test_behind(self):
        reader = PAIRS.reader
        for forms, state in (
            ((), "s"), (((1, 1),), "o"), (((1, 1), (3, 3), (0, 2)), "e"), (((0, 1), (1, 1)), ""), (((0, 0),), ""),
            (((1, 1), (0, 0)), ""), (((1, 1),) * 200, "o"), (((4, 1), (1, 1)), ""), (((1, 1),) * 199 + ((1, 4),), ""),
        ):
            self.assertEqual(reader.behind(forms), state)
        zero = Reader("s", ("e",), {("s", (0, 0)): "a", ("a", (0, 0)): "a", ("a", (1, 0)): "e"})
        self.assertEqual([zero.behind(((0, 0),) * many) for many in (1, 2, 200)], ["a", "a", "a"])

    def test_behind_of_no_forms(self):
        for value in (
            None, [], [(1, 1)], "1.1", 1, True, ((1, 1),) * 201, ((8, 0),), ((1, 1), (0, -1)), ((1, True),), (1, 1),
            ((1,),),
            {}, {(1, 1): 1}, ((1, 1), None), PAIRS,
        ):
            check_raises(self, InvalidRow, lambda: PAIRS.reader.behind(value))

    def test_takes_right_rows(self):
        for row in ((), ((1, 0),), ((3, 3),), ((1, 1), (0, 2)), ((1, 1),) * 200, ((2, 3),) * 199 + ((0, 1),)):
            self.assertIs(PAIRS.reader.takes(row), True)
        for value in (
            ((0, 0),), ((4, 1),), ((0, 1), (1, 1)), ((1, 1), (0, 0)), ((1, 1),) * 201, [(1, 1)], [], None, "1.1", "-",
            0, True,
            ((True, 1),), ((1, False),), ((1, 1), 1), {}, (1, 1),
        ):
            self.assertIs(PAIRS.reader.takes(value), False)

    def test_takes_just_what_leads_to_an_end(self):
        for seed in range(60):
            reader = random_reader(random.Random(seed), "sabc", FORMS[:3] + FORMS[8:10])
            right = right_rows(reader, 3)
            for levels in range(4):
                for row in itertools.product(FORMS[:3] + FORMS[8:10], repeat=levels):
                    self.assertIs(reader.takes(row), row in right)
                    if row:
                        self.assertEqual(reader.behind(row) in reader.ends, row in right)

    def test_values_of_every_kind(self):
        everything = Reader("s", ("e",), {("s", form): "e" for form in FORMS[1:61]})
        for value in odd_values():
            with self.subTest(value=value):
                self.assertIs(everything.takes(value), value in ((), ((1, 2),)))
                if value == ((1, 2), (0, 0)):
                    self.assertEqual(everything.behind(value), "")
                elif value in ((), ((1, 2),)):
                    self.assertEqual(everything.behind(value), "e" if value else "s")
                else:
                    check_raises(self, InvalidRow, lambda: everything.behind(value))

    def test_mirrored(self):
        reader = Reader.from_lines("first s", "ends e o", "read s 1.2 o", "read o 0.0 x", "read x 7.0 e")
        lines = ("first s", "ends e o", "read o 0.0 x", "read s 2.1 o", "read x 0.7 e")
        self.assertEqual(reader.mirrored().lines, lines)
        for seed in range(30):
            reader = random_reader(random.Random(seed), "sabc", FORMS[:3] + FORMS[8:12])
            self.assertEqual(reader.mirrored().mirrored(), reader)
            rows = [tuple(form[::-1] for form in row) for row in right_rows(reader, 3)]
            self.assertEqual(sorted(right_rows(reader.mirrored(), 3)), sorted(rows))


class Spare(unittest.TestCase):
    def test_lines_that_no_right_row_needs(self):
        reader = Reader.from_lines(
            "first s", "ends e f", "read s 1.1 a", "read a 1.1 e", "read a 2.2 d", "read d 1.1 d", "read u 1.1 e",
            "read e 1.1 f",
            "read f 1.1 d", "read s 0.0 d",
        )
        self.assertEqual(
            reader.spare, (("a", (2, 2)), ("d", (1, 1)), ("f", (1, 1)), ("s", (0, 0)), ("u", (1, 1))),
        )
        self.assertEqual(PAIRS.reader.spare, ())
        self.assertEqual(
            [reader.spare for reader in ONLY_EMPTY], [tuple(sorted(reader.reads)) for reader in ONLY_EMPTY]
        )

    def test_without_one_that_is_not_spare_a_row_is_not_right_any_more(self):
        for seed in range(120):
            reader = random_reader(random.Random(seed), "sabcde"[:2 + seed % 5], FORMS[:2], 0.4 + seed % 3 * 0.2)
            # Six states are at most five lines apart.
            right = right_rows(reader, 11)
            used = set()
            for row in right:
                used.update((reader.behind(row[:at]), form) for at, form in enumerate(row))
            self.assertEqual(reader.spare, tuple(sorted(set(reader.reads) - used)))


class Least(unittest.TestCase):
    def test_as_few_states_as_possible(self):
        smaller = 0
        for seed in range(200):
            rng = random.Random(seed)
            reader = random_reader(rng, "sabcde"[:2 + seed % 5], FORMS[:2], rng.choice((0.6, 0.8, 1)))
            right = right_rows(reader, 10)
            if right == [()]:
                check_raises(self, InvalidOperation, reader.least)
                continue
            least = reader.least()
            self.assertIs(type(least), Reader)
            self.assertEqual(sorted(right_rows(least, 10)), sorted(right))
            self.assertEqual(len(least), self.least_many(right))
            self.assertEqual(least.spare, ())
            self.assertIsNone(parting_row(2, reader, least))
            smaller += len(least) < len(reader)
        self.assertGreater(smaller, 50)

    def least_many(self, right):
        """One for the first state, and one for each way in which rows can go on behind some levels."""
        # All of at most six states are come to within five levels, and five further ones tell any two of them apart.
        ways = {}
        for row in right:
            for at in range(1, min(len(row), 5) + 1):
                if len(row) - at <= 5:
                    ways.setdefault(row[:at], set()).add(row[at:])
        return 1 + len({frozenset(rests) for rests in ways.values()})

    def test_where_states_do_the_same(self):
        reader = Reader.from_lines(
            "first s", "ends a b e", "read s 1.0 a", "read s 2.0 b", "read s 3.0 c", "read s 4.0 d", "read a 1.1 e",
            "read b 1.1 a",
            "read c 1.1 b", "read d 1.1 a", "read e 1.1 b",
        )
        self.assertEqual(len(reader.least()), 3)
        self.assertEqual(len(PAIRS.reader.least()), 3)
        self.assertEqual(len(Reader.from_lines("first s", "ends a b", "read s 1.1 a", "read s 2.2 b").least()), 2)

    def test_the_first_state_stays_alone(self):
        # Rows go on from a as they begin in s, but no line may lead to s.
        reader = Reader.from_lines("first s", "ends e", "read s 0.0 a", "read a 0.0 a", "read s 1.1 e", "read a 1.1 e")
        self.assertEqual(len(reader.least()), 3)

    def test_none_if_the_empty_row_is_the_only_right_one(self):
        for reader in ONLY_EMPTY:
            check_raises(self, InvalidOperation, reader.least)

    def test_the_reader_stays(self):
        reader = Reader.from_lines("first s", "ends a b", "read s 1.1 a", "read s 2.2 b")
        reader.least()
        self.assertEqual(reader.states, ("a", "b", "s"))


class Showing(unittest.TestCase):
    def test_str(self):
        self.assertEqual(str(PAIRS.reader), "reader with 3 states, 30 reads")
        self.assertEqual(str(Reader("s", ("e",), {})), "reader with 2 states, 0 reads")
        self.assertEqual(str(Reader("s", ("e",), {("s", (1, 1)): "e"})), "reader with 2 states, 1 reads")

    def test_len(self):
        self.assertEqual([len(PAIRS.reader), len(Reader("s", ("e",), SIX)), len(Reader("s", ("e",), {}))], [3, 6, 2])

    def test_equality(self):
        reader = Reader("s", ("e", "o"), {("s", (1, 1)): "o"})
        self.assertTrue(reader == Reader.from_lines("read s 1.1 o", "ends e o", "first s"))
        self.assertFalse(reader != Reader("s", ("e", "o"), {("s", (1, 1)): "o"}))
        for other in (
            Reader("t", ("e", "o"), {("s", (1, 1)): "o"}), Reader("s", ("e", "o", "p"), {("s", (1, 1)): "o"}),
            Reader("s", ("e", "o"), {("s", (1, 1)): "e"}), Reader("s", ("e", "o"), {}),
            Reader("s", ("e", "o"), {("s", (1, 2)): "o"}),
        ):
            self.assertIs(reader == other, False)
            self.assertIs(reader != other, True)
        for value in odd_values():
            self.assertIs(reader == value, False)
            self.assertIs(reader != value, True)

    def test_is_not_iterated_over(self):
        with self.assertRaises(TypeError):
            iter(PAIRS.reader)


class Comparing(unittest.TestCase):
    def test_by_trying(self):
        parted = 0
        for seed in range(250):
            rng = random.Random(seed)
            forms = (FORMS[:2] + FORMS[8:9], ((0, 0), (0, 1), (2, 1), (5, 0)), FORMS[:2])[seed % 3]
            one = random_reader(rng, "sabc"[:2 + seed % 3], forms)
            other = random_reader(rng, "sabcd", forms, 0.5)
            if seed % 5 == 0 and one.reads:
                other = Reader(one.first, one.ends, dict(list(one.reads.items())[1:]))
            levels = 7
            first, second = set(right_rows(one, levels)), set(right_rows(other, levels))
            for arity in (2, 3):
                found = parting_row(arity, one, other)
                # A row with more levels has at least so many elements.
                bound = arity ** levels
                expected = min((size(arity, row) for row in first ^ second), default=bound)
                if found is None:
                    self.assertEqual(first, second)
                else:
                    parted += 1
                    self.assertNotEqual(one.takes(found), other.takes(found))
                    self.assertIs(type(found), tuple)
                    if size(arity, found) < bound or expected < bound:
                        self.assertEqual(size(arity, found), expected)
            if found is None or len(found) <= levels:
                self.assertIs(is_including(one, other), second <= first)
                self.assertIs(is_including(other, one), first <= second)
        self.assertGreater(parted, 200)

    def test_rows_that_part_can_be_long(self):
        # Both take rows of zeros with one bundle inside; their loops have 5 and 4 levels.
        one = Reader.from_lines(
            "first s", "ends e", "read s 0.0 a", "read a 0.0 b", "read b 0.0 c", "read c 0.0 d", "read d 0.0 a",
            "read a 0.1 e",
        )
        other = Reader.from_lines(
            "first s", "ends e", "read s 0.0 a", "read a 0.0 b", "read b 0.0 c", "read c 0.0 d", "read d 0.0 a",
            "read b 0.1 e",
            "read a 0.1 e",
        )
        self.assertEqual(parting_row(3, one, other), ((0, 0), (0, 0), (0, 1)))
        self.assertEqual([is_including(one, other), is_including(other, one)], [False, True])

    def test_long_ways(self):
        loop = {("s", (0, 0)): "a", ("a", (0, 0)): "b", ("b", (0, 0)): "c", ("c", (0, 0)): "d", ("d", (0, 0)): "a"}
        four = Reader("s", ("e",), loop | {("d", (1, 0)): "e"})
        short = {("s", (0, 0)): "a", ("a", (0, 0)): "b", ("b", (0, 0)): "c", ("c", (0, 0)): "a"}
        three = Reader("s", ("e",), short | {("c", (1, 0)): "e"})
        self.assertEqual(parting_row(2, four, three), ((0, 0),) * 3 + ((1, 0),))
        # Behind twelve levels both loops are where they began.
        both = Reader("s", ("e",), loop | {(state, (1, 0)): "e" for state in "abcd"})
        other = Reader("s", ("e",), short | {(state, (1, 0)): "e" for state in "abc"})
        self.assertIsNone(parting_row(2, both, other))
        self.assertEqual([is_including(both, other), is_including(other, both)], [True, True])

    def test_of_rows_of_least_length_one_with_most_levels(self):
        one = Reader.from_lines("first s", "ends e", "read s 5.0 e", "read s 0.0 a", "read a 0.0 b", "read b 0.1 e")
        other = Reader.from_lines("first s", "ends e")
        self.assertEqual(parting_row(2, one, other), ((0, 0), (0, 0), (0, 1)))
        self.assertEqual(parting_row(3, one, other), ((5, 0),))

    def test_all_right_rows_and_only_the_empty_one(self):
        for reader in ONLY_EMPTY:
            self.assertIs(is_including(PAIRS.reader, reader), True)
            self.assertIs(is_including(reader, PAIRS.reader), False)
            self.assertEqual(size(2, parting_row(2, reader, PAIRS.reader)), 1)
            for other in ONLY_EMPTY:
                self.assertIs(is_including(other, reader), True)
                self.assertIsNone(parting_row(3, reader, other))

    def test_of_the_document(self):
        self.assertEqual(
            [is_including(PAIRS.reader, TIGHT.reader), is_including(TIGHT.reader, PAIRS.reader)], [True, False],
        )
        self.assertIn(parting_row(2, PAIRS.reader, TIGHT.reader), (((3, 0),), ((0, 3),)))
        self.assertIn(parting_row(2, TIGHT.reader, PAIRS.reader), (((3, 0),), ((0, 3),)))

    def test_wrong_values(self):
        no_readers = [(value, InvalidReader) for value in (None, PAIRS, 1, "s", (), PAIRS.reader.lines, PAIRS.machine)]
        no_arities = [(value, InvalidNumber) for value in (1, 4, True, None, "2", (2,), 2 * 10 ** 60, -2, [2], PAIRS)]
        check_first_error(self, is_including, (PAIRS.reader, TIGHT.reader), (no_readers, no_readers))
        check_first_error(
            self, parting_row, (2, PAIRS.reader, TIGHT.reader), (no_arities, no_readers[:4], no_readers[:4]),
        )

    def test_values_of_every_kind(self):
        for value in odd_values():
            if isinstance(value, Reader):
                continue
            with self.subTest(value=value):
                check_raises(self, InvalidReader, lambda: is_including(value, PAIRS.reader))
                check_raises(self, InvalidReader, lambda: parting_row(3, PAIRS.reader, value))
                if type(value) is not int or value not in (2, 3):
                    check_raises(self, InvalidNumber, lambda: parting_row(value, PAIRS.reader, TIGHT.reader), value)

    def test_arguments_stay(self):
        one, other = copy.deepcopy(PAIRS.reader), copy.deepcopy(TIGHT.reader)
        parting_row(2, one, other)
        is_including(one, other)
        self.assertEqual((one, other), (PAIRS.reader, TIGHT.reader))


if __name__ == "__main__":
    unittest.main()
