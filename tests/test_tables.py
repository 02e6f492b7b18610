"""Promises 0.17 to 0.19, 0.21 and 10.1 and the interface of fingerbooks.decide.tables."""

import itertools
import random
import unittest

from fingerbooks.book.books import DEEDS, Book
from fingerbooks.decide import tables
from fingerbooks.decide.tables import Table, is_final, is_stand, moves, start_of
from fingerbooks.deeds.rows import is_done, new_row
from fingerbooks.errors import InvalidBook, InvalidOperation, TooMany
from fingerbooks.read.readers import Reader
from tests.books import LESS, PAIRS, STARTS, TIGHT, TRIPLES, changed_book, plain, random_book, right_rows, wide
from tests.checks import check_first_error, check_raises
from tests.trying import PAIR_OF, stands_along
from tests.values import odd_values

LOOSE = PAIRS.without("page m inner 0.2 to 2.2 pass -1.0 then m")
NO_BOOKS = [(value, InvalidBook) for value in (None, PAIRS.reader, PAIRS.lines, "book", 2)]
NO_DEEDS = [
    (value, InvalidOperation) for value in ("", "push", "Popl", None, 0, True, ("popl",), ["popl"], {"popl": 1})
]
# Stands that cannot come about, but have the form of one.
ODD_STANDS = (
    ("", (-2, 2), "m", "", True), ("s", (2, -2), "m", "e", False), ("o", (0, 0), "m", "s", True),
    ("e", (1, 1), "m", "", False),
    ("", (0, 0), "m", "s", False), ("s", (1, 0), "m", "s", False), ("s", (0, 1), "m", "s", True),
    ("s", (1, 0), "m", "o", True),
    ("o", (0, 0), "", "", False), ("s", (0, 0), "", "", False), ("", (0, 0), "", "", False),
    ("", (0, 1), "m", "o", True),
)
NO_STANDS = (
    None, (), "s 1.0 m s yes", ("s", (1, 0), "m", "s"), ("s", (1, 0), "m", "s", True, True),
    ["s", (1, 0), "m", "s", True],
    ("t", (1, 0), "m", "s", True), ("s", (1, 0), "m", "t", True), ("s", (1, 0), "n", "s", True),
    ("s", (3, 0), "m", "s", True),
    ("s", (0, -3), "m", "s", True), ("s", [1, 0], "m", "s", True), ("s", (1,), "m", "s", True),
    ("s", (True, 0), "m", "s", True),
    ("s", (1, False), "m", "s", True), ("s", (1, 0), "m", "s", 1), ("s", (1, 0), "m", "s", 0),
    ("s", (1, 0), "m", "s", None),
    ("s", (1, 0), "m", "s", "yes"), (None, (1, 0), "m", "s", True), ("s", (1, 0), None, "s", True),
    ("s", (1, 0), "m", None, True),
    (["s"], (1, 0), "m", "s", True), ("s", (1, 0), ["m"], "s", True), ("s", (1, 0), "m", {}, True),
    ("s", None, "m", "s", True),
    ("s", (1, 0), "", "", False), ("s", (0, 0), "", "s", False), ("s", (0, 0), "", "", True),
    ("", (0, 1), "", "", False),
    ("", (0, 0), "", "o", False), ("", (0, 0), "", "", True), ("x", (0, 0), "", "", False), ("s", (0, 0), "", "", 0),
    ("s", (0, 0), "", None, False), ("s", (False, 0), "", "", False), ("s", (1, 0), "M", "s", True),
    ("S", (1, 0), "m", "s", True),
)


def some_books():
    rng = random.Random(15)
    forms = ((0, 0), (0, 1), (1, 1), (2, 0), (2, 1))
    found = [PAIRS, TIGHT, LESS, LOOSE, TRIPLES, wide(), wide().mirrored()]
    found += [changed_book(rng, rng.choice((PAIRS, TIGHT, TRIPLES, wide())), rng.randint(1, 10)) for _ in range(25)]
    return found + [random_book(rng, rng.choice((2, 3)), rng.sample(forms, 4), 150) for _ in range(30)]


def moves_by_hand(book, deed, stand):
    """The moves from a stand, as [0.18] tells."""
    state, pair, note, new, ends = stand
    reads, last_states = book.reader.reads, book.reader.ends
    levels = []
    for (begun, form), after in reads.items():
        if begun == state:
            levels.append(("inner", form, after))
            if after in last_states:
                levels.append(("last", form, ""))
    is_start = stand == (book.reader.first, PAIR_OF[deed], book.starts[deed], book.reader.first, True)
    if (is_start and deed in ("pushl", "pushr")) or (state == "" and pair != (0, 0)):
        levels.append(("new", (0, 0), ""))
    found = []
    for where, form, after in levels:
        result = None
        if note:
            raw = (form[0] + pair[0], form[1] + pair[1])
            result = book.machine.step(note, "inner" if where == "inner" else "last", raw)
        if result is None:
            found.append((where, form, (after, (0, 0), "", "", False)))
            continue
        behind = reads.get((new, result[0]), "")
        right = ends if result[0] == (0, 0) else behind in last_states
        found.append((where, form, (after, result[1], result[2], behind, right)))
    return tuple(sorted(found))


def reachable(book, deed):
    """All stands that come behind the start and itself, each with the least number of moves."""
    start = start_of(book, deed)
    found, layer = {start: 0}, [start]
    while layer:
        following = []
        for stand in layer:
            for _, _, other in moves_by_hand(book, deed, stand):
                if other not in found:
                    found[other] = found[stand] + 1
                    following.append(other)
        layer = following
    return found


class Interface(unittest.TestCase):
    def test_constants(self):
        self.assertEqual(tables.MAX_TABLE, 20000)

    def test_all_is_defined_here(self):
        for thing in (Table, is_stand, start_of, moves, is_final):
            self.assertEqual(thing.__module__, "fingerbooks.decide.tables")
        for name in ("book", "kind", "stands", "finals", "wrong", "is_good"):
            self.assertIsInstance(vars(Table)[name], property)
        for name in ("way_to", "__contains__", "__len__", "__iter__", "__eq__", "__str__"):
            self.assertIn(name, vars(Table))


class Stands(unittest.TestCase):
    def test_all_that_have_the_form_of_one(self):
        book = Book.from_lines(
            "arity 2", "first s", "ends e", "read s 1.0 e", "start pushl a", "start pushr a", "start popl b",
            "start popr a",
            "page c inner 1.1 to 1.1 pass 0.0 then d",
        )
        for state, pair, note, new, ends in itertools.product(
            ("s", "e", "", "a", "o"), itertools.product(range(-3, 4), repeat=2), ("a", "b", "c", "d", "", "m", "s"),
            ("s", "e", "", "a"),
            (True, False),
        ):
            if note == "":
                expected = state in ("s", "e", "") and (pair, new, ends) == ((0, 0), "", False)
            else:
                states = ("s", "e", "")
                expected = state in states and new in states and -2 <= min(pair) and max(pair) <= 2 and note in "abcd"
            self.assertIs(is_stand(book, (state, pair, note, new, ends)), expected)

    def test_others(self):
        for stand in ODD_STANDS:
            self.assertIs(is_stand(PAIRS, stand), True)
        for value in NO_STANDS:
            with self.subTest(value=value):
                self.assertIs(is_stand(PAIRS, value), False)
                self.assertIs(is_final(PAIRS, value), False)

    def test_values_of_every_kind(self):
        right = ("s", (0, 0), "m", "o", True)
        for value in odd_values():
            with self.subTest(value=value):
                self.assertIs(is_stand(PAIRS, value), False)
                self.assertIs(is_final(PAIRS, value), False)
                self.assertIs(is_stand(PAIRS, (value,) + right[1:]), isinstance(value, str) and value == "")
                self.assertIs(is_stand(PAIRS, ("s", value, "m", "o", True)), value == (1, 2))
                self.assertIs(is_stand(PAIRS, ("s", (0, 0), value, "o", True)), False)
                self.assertIs(is_stand(PAIRS, ("s", (0, 0), value, "", False)), isinstance(value, str) and value == "")
                self.assertIs(is_stand(PAIRS, ("s", (0, 0), "m", value, True)), isinstance(value, str) and value == "")
                self.assertIs(is_stand(PAIRS, right[:4] + (value,)), isinstance(value, bool))

    def test_start(self):
        book = PAIRS.with_line("start popr x").renamed({"s": "t", "e": "e", "o": "o"}, {"m": "n", "x": "y"})
        self.assertEqual(
            [start_of(book, deed) for deed in DEEDS],
            [
                ("t", (1, 0), "n", "t", True), ("t", (0, 1), "n", "t", True), ("t", (-1, 0), "n", "t", True),
                ("t", (0, -1), "y", "t", True),
            ],
        )

    def test_final(self):
        for stand in ODD_STANDS:
            self.assertIs(is_final(PAIRS, stand), stand[:2] == ("", (0, 0)))
        self.assertIs(is_final(LOOSE, ("", (0, 0), "m", "", False)), True)
        self.assertIs(is_final(LOOSE, ("", (0, 0), "m", "", 0)), False)
        self.assertIs(is_final(LOOSE, ("", (0, 0), "n", "", False)), False)
        self.assertIs(is_final(LOOSE, ("", (False, 0), "m", "", False)), False)


class Moves(unittest.TestCase):
    def test_by_hand(self):
        kinds = {"inner": 0, "last": 0, "new": 0, "broken": 0}
        for book in some_books():
            states = book.reader.states + ("",)
            rng = random.Random(16)
            notes = sorted(set(book.machine.notes) | set(book.starts.values()))
            for deed in DEEDS:
                stands = list(reachable(book, deed)) + [(state, (0, 0), "", "", False) for state in states]
                for _ in range(20):
                    stands.append((
                        rng.choice(states), (rng.randint(-2, 2), rng.randint(-2, 2)), rng.choice(notes),
                        rng.choice(states),
                        rng.random() < 0.5,
                    ))
                for stand in stands:
                    found = moves(book, deed, stand)
                    self.assertEqual(found, moves_by_hand(book, deed, stand))
                    for where, _, other in found:
                        kinds[where] += 1
                        kinds["broken"] += other[2] == ""
                        self.assertIs(is_stand(book, other), True)
        self.assertGreater(min(kinds.values()), 1000)

    def test_of_the_document(self):
        start = start_of(PAIRS, "pushl")
        self.assertEqual(len(moves(PAIRS, "pushl", start)), 31)
        self.assertEqual(moves(PAIRS, "pushl", start)[-1], ("new", (0, 0), ("", (0, 0), "m", "e", True)))
        self.assertEqual(len(moves(PAIRS, "popl", start_of(PAIRS, "popl"))), 30)

    def test_only_the_start_of_a_put_reads_the_empty_row(self):
        for book, deed, other in itertools.product((PAIRS, TRIPLES, LESS), DEEDS, DEEDS):
            new = [move for move in moves(book, deed, start_of(book, other)) if move[0] == "new"]
            self.assertEqual(len(new), deed == other and deed.startswith("push"))
        notes = PAIRS.with_line("start pushr x")
        self.assertEqual([len(moves(notes, "pushr", ("s", (0, 1), note, "s", True))) for note in "mx"], [30, 31])
        for stand in ODD_STANDS:
            if stand[0] != "":
                self.assertNotIn("new", [where for where, _, _ in moves(PAIRS, "pushl", stand)])

    def test_new_levels(self):
        self.assertEqual(
            moves(PAIRS, "popl", ("", (1, 0), "m", "o", True)), (("new", (0, 0), ("", (0, 0), "m", "e", True)),),
        )
        self.assertEqual(
            moves(PAIRS, "popl", ("", (-1, 0), "m", "o", True)), (("new", (0, 0), ("", (0, 0), "", "", False)),),
        )
        self.assertEqual(moves(PAIRS, "pushl", ("", (0, 0), "m", "o", True)), ())
        self.assertEqual(moves(PAIRS, "pushl", ("e", (1, 0), "m", "o", True)), ())

    def test_broken_stands(self):
        found = moves(LESS, "popl", ("o", (0, 0), "", "", False))
        self.assertEqual(len(found), 30)
        self.assertEqual({(where, stand) for where, _, stand in found}, {
            ("inner", ("o", (0, 0), "", "", False)), ("inner", ("e", (0, 0), "", "", False)),
            ("last", ("", (0, 0), "", "", False)),
        })
        self.assertEqual(moves(LESS, "popl", ("", (0, 0), "", "", False)), ())
        self.assertEqual(moves(LESS, "popl", ("e", (0, 0), "", "", False)), ())

    def test_empty_forms_and_what_is_right(self):
        # As long as all new forms are (0, 0) the new row is the empty one, which is right, whatever the lines do.
        book = plain(Reader("s", ("e",), {("s", (1, 0)): "a", ("a", (1, 0)): "e", ("s", (0, 0)): "b"}))
        stand = ("s", (-1, 0), "m", "s", True)
        self.assertEqual(
            dict((move[:2], move[2]) for move in moves(book, "popl", stand))[("inner", (1, 0))],
            ("a", (0, 0), "m", "b", True)
        )
        self.assertEqual(
            moves(book, "popl", ("a", (-1, 0), "m", "", True)),
            (("inner", (1, 0), ("e", (0, 0), "m", "", True)), ("last", (1, 0), ("", (0, 0), "m", "", True))),
        )
        self.assertEqual(
            moves(book, "popl", ("a", (-1, 0), "m", "", False))[1], ("last", (1, 0), ("", (0, 0), "m", "", False)),
        )
        self.assertEqual(
            moves(book, "popl", ("a", (0, 0), "m", "a", False))[1], ("last", (1, 0), ("", (0, 0), "m", "e", True)),
        )

    def test_first_error(self):
        no_stands = [(value, InvalidOperation) for value in NO_STANDS[:6]]
        check_first_error(self, moves, (PAIRS, "pushl", start_of(PAIRS, "pushl")), (NO_BOOKS, NO_DEEDS[:5], no_stands))
        check_first_error(self, start_of, (PAIRS, "pushl"), (NO_BOOKS, NO_DEEDS))
        for value in NO_STANDS:
            check_raises(self, InvalidOperation, lambda: moves(PAIRS, "pushl", value))
        for value in (None, PAIRS.reader, "book"):
            check_raises(self, InvalidBook, lambda: is_stand(value, None))
            check_raises(self, InvalidBook, lambda: is_final(value, ("", (0, 0), "m", "", False)))

    def test_values_of_every_kind(self):
        for value in odd_values():
            with self.subTest(value=value):
                check_raises(self, InvalidOperation, lambda: moves(PAIRS, "pushl", value))
                check_raises(self, InvalidOperation, lambda: moves(PAIRS, value, start_of(PAIRS, "popl")))
                check_raises(self, InvalidOperation, lambda: start_of(PAIRS, value))
                check_raises(self, InvalidOperation, lambda: Table(PAIRS, value))
                if not isinstance(value, Book):
                    for call in (
                        lambda: start_of(value, "popl"), lambda: moves(value, "popl", None),
                        lambda: is_stand(value, None),
                        lambda: is_final(value, None), lambda: Table(value, "popl"),
                    ):
                        check_raises(self, InvalidBook, call)


class Tables(unittest.TestCase):
    def test_stands_from_which_a_final_one_can_be_reached(self):
        dead = 0
        for book in some_books():
            for deed in DEEDS:
                table, found = Table(book, deed), reachable(book, deed)
                live = {stand for stand in found if is_final(book, stand)}
                size = -1
                while size != len(live):
                    size = len(live)
                    live |= {
                        stand for stand in found if any(move[2] in live for move in moves_by_hand(book, deed, stand))
                    }
                live.add(start_of(book, deed))
                self.assertEqual(table.stands, tuple(sorted(live)))
                self.assertEqual(table.finals, tuple(stand for stand in sorted(live) if stand[:2] == ("", (0, 0))))
                self.assertEqual(table.wrong, tuple(stand for stand in table.finals if stand[4] is False))
                self.assertIs(table.is_good, table.wrong == ())
                self.assertEqual(
                    (table.book, table.kind, len(table), list(table)), (book, deed, len(live), sorted(live)),
                )
                self.assertEqual(str(table), f"table of {len(live)} stands, {len(table.wrong)} wrong")
                dead += len(found) - len(live)
        self.assertGreater(dead, 100)

    def test_all_right_rows_go_through_it(self):
        for book in some_books():
            rows = right_rows(book.reader, 3)
            for deed in DEEDS:
                table = Table(book, deed)
                held = set(table.stands)
                fails = False
                for row in rows[:400]:
                    if row == () and deed.startswith("pop"):
                        continue
                    stands = stands_along(book, row, deed)
                    self.assertLessEqual(set(stands), held)
                    self.assertIn(stands[-1], table.finals)
                    self.assertIs(is_done(book, row, deed), stands[-1][4])
                    self.assertIs(stands[-1] in table.wrong, not stands[-1][4])
                    fails = fails or not stands[-1][4]
                self.assertFalse(fails and table.is_good)

    def test_each_stand_is_one_of_a_right_row(self):
        for book in some_books():
            for deed in DEEDS:
                table = Table(book, deed)
                if len(table) == 1:
                    continue
                for stand in table:
                    way = table.way_to(stand) + self.way_on(book, deed, stand)
                    row = tuple(form for where, form, _ in way if where != "new")
                    self.assertTrue(book.is_right(row))
                    self.assertEqual([start_of(book, deed)] + [move[2] for move in way], stands_along(book, row, deed))

    def way_on(self, book, deed, stand):
        """Moves from a stand to a final one."""
        known, waiting = {stand: ()}, [stand]
        for at in waiting:
            if at[:2] == ("", (0, 0)):
                return known[at]
            for move in moves_by_hand(book, deed, at):
                if move[2] not in known:
                    known[move[2]] = known[at] + (move,)
                    waiting.append(move[2])
        raise AssertionError(stand)

    def test_a_bad_table_has_a_right_row_in_which_the_deed_fails(self):
        bad = 0
        for book in some_books():
            for deed in DEEDS:
                table = Table(book, deed)
                for stand in table.wrong:
                    row = tuple(form for where, form, _ in table.way_to(stand) if where != "new")
                    self.assertTrue(book.is_right(row))
                    self.assertFalse(is_done(book, row, deed))
                    self.assertLessEqual(len(row), len(table))
                    bad += 1
        self.assertGreater(bad, 100)

    def test_ways_are_as_short_as_possible(self):
        for book in some_books():
            for deed in DEEDS:
                table, found = Table(book, deed), reachable(book, deed)
                for stand in table:
                    way = table.way_to(stand)
                    self.assertIs(type(way), tuple)
                    self.assertEqual(len(way), found[stand])
                    at = start_of(book, deed)
                    for move in way:
                        self.assertIn(move, moves(book, deed, at))
                        at = move[2]
                    self.assertEqual(at, stand)
        self.assertEqual(Table(PAIRS, "popl").way_to(start_of(PAIRS, "popl")), ())

    def test_ways_to_what_is_not_in_it(self):
        table = Table(LESS, "popl")
        for value in ODD_STANDS + NO_STANDS + (start_of(LESS, "popr"), ("o", (0, 0), "m", "s", True)):
            if value not in table.stands or value in NO_STANDS:
                with self.subTest(value=value):
                    check_raises(self, InvalidOperation, lambda: table.way_to(value))
                    self.assertIs(value in table, False)
        # A stand that follows, but from which no final one can be reached.
        table = Table(PAIRS, "pushl")
        dead = set(reachable(PAIRS, "pushl")) - set(table.stands)
        self.assertGreater(len(dead), 1)
        for stand in dead:
            self.assertIs(stand in table, False)
            check_raises(self, InvalidOperation, lambda: table.way_to(stand))

    def test_stands_are_in_it(self):
        table = Table(LESS, "popl")
        for stand in table.stands:
            self.assertIs(stand in table, True)
            self.assertIs(stand[:4] + (int(stand[4]),) in table, False)
            self.assertIs(list(stand) in table, False)
        for value in odd_values():
            self.assertIs(value in table, False)
            check_raises(self, InvalidOperation, lambda: table.way_to(value))

    def test_of_the_document(self):
        table = Table(PAIRS, "pushl")
        self.assertEqual(str(table), "table of 6 stands, 0 wrong")
        self.assertEqual(table.finals, (("", (0, 0), "m", "e", True), ("", (0, 0), "m", "o", True)))
        self.assertEqual([Table(LOOSE, "pushl").is_good, Table(LOOSE, "popl").is_good], [True, False])
        self.assertEqual(
            [Table(book, deed).is_good for book in (PAIRS, TIGHT, TRIPLES) for deed in DEEDS], [True] * 12,
        )

    def test_books_without_right_rows(self):
        empty = plain(Reader("s", ("e",), {("s", (1, 1)): "o", ("o", (1, 1)): "o"}))
        table = Table(empty, "popl")
        self.assertEqual(
            (table.stands, table.finals, table.wrong, table.is_good), ((start_of(empty, "popl"),), (), (), True),
        )
        self.assertEqual(str(table), "table of 1 stands, 0 wrong")
        # A put can be done in the empty row, and fails there.
        table = Table(empty, "pushl")
        self.assertEqual(table.wrong, (("", (0, 0), "m", "", False),))
        self.assertIs(table.is_good, False)
        self.assertEqual(table.way_to(table.wrong[0]), (("new", (0, 0), table.wrong[0]),))

    def test_good_books_at_one_end_only(self):
        self.assertEqual([Table(LESS, deed).is_good for deed in DEEDS], [True, True, False, True])
        self.assertEqual([Table(LESS.mirrored(), deed).is_good for deed in DEEDS], [True, True, True, False])

    def test_the_mirrored_book_is_as_good_for_the_mirrored_deeds(self):
        for book in some_books():
            for deed, other in (("pushl", "pushr"), ("pushr", "pushl"), ("popl", "popr"), ("popr", "popl")):
                table, mirrored = Table(book, deed), Table(book.mirrored(), other)
                self.assertEqual(
                    sorted((stand[0], stand[1][::-1]) + stand[2:] for stand in table), list(mirrored.stands)
                )
                self.assertIs(table.is_good, mirrored.is_good)

    def test_a_page_that_no_deed_meets_can_go(self):
        gone = 0
        for book in some_books()[:20]:
            met = {
                (stand[2], "inner" if where == "inner" else "last", (form[0] + stand[1][0], form[1] + stand[1][1]))
                for deed in DEEDS for stand in Table(book, deed) for where, form, _ in moves(book, deed, stand)
            }
            for page in book.machine.pages:
                if page.place not in met:
                    gone += 1
                    for deed in DEEDS:
                        other = Table(book.without(page.line), deed)
                        self.assertEqual(other.finals, Table(book, deed).finals)
        self.assertGreater(gone, 10)

    def test_too_many_stands(self):
        kept = tables.MAX_TABLE
        try:
            for book, deed in ((PAIRS, "pushl"), (LESS, "popl"), (wide(), "popl"), (wide(), "pushr")):
                tables.MAX_TABLE = kept
                many = len(reachable(book, deed)) - 1
                # Those count, too, from which no final stand can be reached; the start does not.
                tables.MAX_TABLE = many
                table = Table(book, deed)
                self.assertLessEqual(len(table), many + 1)
                for limit in (many - 1, many // 2, 1):
                    tables.MAX_TABLE = limit
                    check_raises(self, TooMany, lambda: Table(book, deed), limit)
                    check_raises(self, InvalidOperation, lambda: Table(book, None))
        finally:
            tables.MAX_TABLE = kept
        self.assertGreater(len(reachable(PAIRS, "pushl")), len(Table(PAIRS, "pushl")))

    def test_many_notes(self):
        reads = {("s", form): "a" for form in itertools.product(range(1, 6), range(1, 6))}
        reads |= {("a", form): ("a", "b")[sum(form) % 2] for form in itertools.product(range(1, 6), range(1, 6))}
        lines = Reader("s", ("b",), reads).lines
        names = ["".join(letters) for letters in itertools.product("abcdef", "abcd", "abcde")]
        pages = [f"page m inner {left + 1}.{right} to {left - 1}.{right} pass 1.0 then {names[5 * left + right]}"
                 for left in range(1, 6) for right in range(1, 6)]
        pages += [f"page {names[5 * left + right]} inner 2.1 to 2.1 pass 0.0 then {names[30 + 5 * left + right]}"
                  for left in range(1, 6) for right in range(1, 6)]
        book = Book.from_lines("arity 2", *lines, *[f"start {deed} m" for deed in DEEDS], *pages)
        table = Table(book, "pushl")
        self.assertGreater(len(table), 150)
        rng = random.Random(17)
        for _ in range(100):
            row = tuple((rng.randint(1, 5), rng.randint(1, 5)) for _ in range(4))
            if book.is_right(row):
                self.assertLessEqual(set(stands_along(book, row, "pushl")), set(table))
                self.assertEqual(stands_along(book, row, "pushl")[-1][4], book.is_right(new_row(book, row, "pushl")))

    def test_equality(self):
        table = Table(PAIRS, "pushl")
        self.assertTrue(table == Table(Book(PAIRS.reader, PAIRS.machine, STARTS), "pushl"))
        self.assertFalse(table != Table(PAIRS, "pushl"))
        for other in (Table(PAIRS, "pushr"), Table(LESS, "pushl"), Table(TRIPLES, "pushl")):
            self.assertIs(table == other, False)
            self.assertIs(table != other, True)
        for value in odd_values() + [table.stands, PAIRS]:
            self.assertIs(table == value, False)

    def test_never_changes(self):
        table = Table(PAIRS, "popr")
        for name in ("book", "kind", "stands", "finals", "wrong", "is_good"):
            with self.assertRaises(AttributeError):
                setattr(table, name, None)

    def test_first_error(self):
        check_first_error(self, Table, (PAIRS, "popr"), (NO_BOOKS, NO_DEEDS))


if __name__ == "__main__":
    unittest.main()
