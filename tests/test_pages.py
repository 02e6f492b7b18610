"""Promises 0.11 to 0.13 and 4.1 and the interface of fingerbooks.book.pages."""

import itertools
import random
import unittest

from fingerbooks.book import pages
from fingerbooks.book.pages import Machine, Page
from fingerbooks.errors import InvalidNumber, InvalidOperation, InvalidPage, InvalidRow, ParseError, UnknownName
from tests.books import FORMS, PAIRS, TRIPLES, random_page, wide
from tests.checks import check_first_error, check_raises
from tests.values import odd_values

LINE = "page m inner 4.1 to 2.1 pass 1.0 then n"
PAGE = Page("m", "inner", (4, 1), (2, 1), (1, 0), "n")
OTHER = Page("m", "last", (4, 1), (2, 1), (1, 0), "m")
RAWS = tuple(itertools.product(range(-2, 10), range(-2, 10)))
PASSES = tuple(itertools.product(range(-2, 3), range(-2, 3)))
NO_NAMES = ("", "M", "ninechars", "m ", 1, True, None, ("m",), ["m"], {"m": 1}, PAIRS)
NO_WHERES = ("", "Inner", "outer", "new", "inner ", 1, True, None, ("inner",), ["last"], ("inner", "last"), {}, PAIRS)
NO_PAIRS = (
    (1,), (1, 1, 1), (), [1, 1], "1.1", None, 1, True, (True, 1), (1, False), ("1", "1"), (1, None), {1: 1},
    (10 ** 60, 0), (0, -(10 ** 99)), ((1, 1),), PAIRS,
)
NO_RAWS = NO_PAIRS + ((-3, 0), (0, -3), (10, 0), (0, 10), (-3, 10))
NO_PASSES = NO_PAIRS + ((3, 0), (0, 3), (-3, 0), (0, -3))
NO_FORMS = NO_PAIRS + ((8, 0), (0, 8), (-1, 0), (0, -1))


def arities(where, raw, form, passed):
    """The arities for which a page keeps all bundles, as [0.12] tells."""
    found = []
    for arity in (2, 3):
        if where == "inner":
            fits = form[0] == raw[0] - arity * passed[0] and form[1] == raw[1] - arity * passed[1]
        else:
            fits = passed[0] >= 0 and passed[1] >= 0 and sum(form) + arity * (passed[0] + passed[1]) == sum(raw)
        if fits:
            found.append(arity)
    return tuple(found)


def shown(page):
    """The line of a page as the document shows it."""
    texts = [f"{pair[0]}.{pair[1]}" for pair in (page.raw, page.form, page.passed)]
    return f"page {page.note} {page.where} {texts[0]} to {texts[1]} pass {texts[2]} then {page.after}"


class Interface(unittest.TestCase):
    def test_constants(self):
        self.assertEqual((pages.WHERE, pages.MAX_PASS, pages.MAX_PAGES), (("inner", "last"), 2, 150))

    def test_all_is_defined_here(self):
        for thing in (Page, Machine):
            self.assertEqual(thing.__module__, "fingerbooks.book.pages")
        for name in ("note", "where", "raw", "form", "passed", "after", "line", "place", "arities"):
            self.assertIsInstance(vars(Page)[name], property)
        for name in ("arity", "pages", "notes"):
            self.assertIsInstance(vars(Machine)[name], property)
        for name in ("from_line", "mirrored", "__eq__", "__str__"):
            self.assertIn(name, vars(Page))
        for name in ("step", "run", "__getitem__", "__contains__", "__len__", "__eq__", "__str__"):
            self.assertIn(name, vars(Machine))


class Pages(unittest.TestCase):
    def test_all_that_keep_the_bundles_and_no_others(self):
        rng = random.Random(1)
        found = 0
        for where, raw, passed in itertools.product(("inner", "last"), RAWS, PASSES):
            for form in rng.sample(FORMS, 4) + self.fitting(where, raw, passed):
                expected = arities(where, raw, form, passed)
                if expected == ():
                    check_raises(self, InvalidPage, lambda: Page("m", where, raw, form, passed, "n"))
                else:
                    found += 1
                    self.assertEqual(Page("m", where, raw, form, passed, "n").arities, expected)
        self.assertGreater(found, 3000)

    def fitting(self, where, raw, passed):
        """Some forms that fit."""
        found = []
        for arity in (2, 3):
            if where == "inner":
                found.append((raw[0] - arity * passed[0], raw[1] - arity * passed[1]))
            else:
                rest = sum(raw) - arity * sum(passed)
                found.extend([(rest, 0), (0, rest), (rest // 2, rest - rest // 2), (rest - 1, 2), (rest + 1, -1)])
        return [form for form in found if form in FORMS]

    def test_both_arities_if_nothing_is_passed(self):
        self.assertEqual(Page("m", "last", (4, 0), (2, 2), (0, 0), "m").arities, (2, 3))
        self.assertEqual(Page("m", "inner", (4, 0), (4, 0), (0, 0), "m").arities, (2, 3))
        self.assertEqual(Page("m", "inner", (4, 0), (1, 0), (1, 0), "m").arities, (3,))
        self.assertEqual(Page("m", "inner", (4, 0), (2, 0), (1, 0), "m").arities, (2,))
        self.assertEqual(Page("m", "last", (-2, 2), (0, 0), (0, 0), "m").arities, (2, 3))
        self.assertEqual(Page("m", "last", (9, 9), (7, 7), (1, 1), "m").arities, (2,))
        self.assertEqual(Page("m", "last", (9, 9), (7, 5), (0, 2), "m").arities, (3,))
        for raw in ((3, 3), (-1, 2), (0, 0)):
            # Each side of an inner level keeps its own bundles, and a last level fetches none.
            check_raises(self, InvalidPage, lambda: Page("m", "inner", raw, (raw[0] + 1, raw[1] - 1), (0, 0), "m"))
            check_raises(self, InvalidPage, lambda: Page("m", "last", raw, (raw[0] + 2, raw[1]), (-1, 0), "m"))

    def test_wrong_values(self):
        right = ("m", "inner", (4, 1), (2, 1), (1, 0), "n")
        self.assertEqual(Page(*right), PAGE)
        for at, wrongs in enumerate((NO_NAMES, NO_WHERES, NO_RAWS, NO_FORMS, NO_PASSES, NO_NAMES)):
            for wrong in wrongs:
                with self.subTest(at=at, wrong=wrong):
                    check_raises(self, InvalidPage, lambda: Page(*right[:at], wrong, *right[at + 1:]))

    def test_bundles_that_only_limits_forbid(self):
        for raw, form, passed in (
            ((10, 1), (6, 1), (2, 0)), ((8, 1), (8, 1), (0, 0)), ((9, 1), (3, 1), (3, 0)), ((-3, 1), (1, 1), (-2, 0)),
            ((1, -2), (1, 4), (0, -3)), ((-1, 0), (-1, 0), (0, 0)), ((1, 10), (1, 6), (0, 2)),
        ):
            self.assertEqual(form, (raw[0] - 2 * passed[0], raw[1] - 2 * passed[1]))
            for where in ("inner", "last"):
                check_raises(self, InvalidPage, lambda: Page("m", where, raw, form, passed, "m"))

    def test_values_of_every_kind(self):
        right = ("m", "last", (0, 0), (0, 0), (0, 0), "n")
        for value in odd_values():
            for at in range(6):
                if at in (0, 5) and value in ("a", "abcdefgh"):
                    continue
                with self.subTest(value=value, at=at):
                    check_raises(self, InvalidPage, lambda: Page(*right[:at], value, *right[at + 1:]))

    def test_properties(self):
        self.assertEqual(
            (PAGE.note, PAGE.where, PAGE.raw, PAGE.form, PAGE.passed, PAGE.after),
            ("m", "inner", (4, 1), (2, 1), (1, 0), "n"),
        )
        self.assertEqual((PAGE.line, PAGE.place, PAGE.arities), (LINE, ("m", "inner", (4, 1)), (2,)))
        for name in ("note", "where", "raw", "form", "passed", "after", "line", "place", "arities"):
            with self.assertRaises(AttributeError):
                setattr(PAGE, name, None)

    def test_mirrored(self):
        self.assertEqual(PAGE.mirrored().line, "page m inner 1.4 to 1.2 pass 0.1 then n")
        rng = random.Random(2)
        for _ in range(200):
            page = random_page(rng, rng.choice((2, 3)), ("a", "b"))
            mirrored = page.mirrored()
            self.assertEqual(
                (mirrored.note, mirrored.where, mirrored.raw, mirrored.form, mirrored.passed, mirrored.after),
                (page.note, page.where, page.raw[::-1], page.form[::-1], page.passed[::-1], page.after),
            )
            self.assertEqual((mirrored.mirrored(), mirrored.arities), (page, page.arities))

    def test_equality_and_str(self):
        self.assertEqual(str(PAGE), LINE)
        self.assertTrue(PAGE == Page.from_line(LINE))
        self.assertFalse(PAGE != Page.from_line(LINE))
        for other in (OTHER, PAGE.mirrored(), Page("m", "inner", (4, 1), (2, 1), (1, 0), "m")):
            self.assertIs(PAGE == other, False)
            self.assertIs(PAGE != other, True)
        for value in odd_values() + [LINE, PAGE.place]:
            self.assertIs(PAGE == value, False)
        with self.assertRaises(TypeError):
            iter(PAGE)


class LinesOfPages(unittest.TestCase):
    def test_there_and_back(self):
        rng = random.Random(3)
        for _ in range(300):
            page = random_page(rng, rng.choice((2, 3)), ("a", "inner", "then", "zzzzzzzz"))
            self.assertEqual(page.line, shown(page))
            again = Page.from_line(page.line)
            self.assertEqual((again.line, again.place, again.form), (page.line, page.place, page.form))
            self.assertEqual((again.passed, again.after, again.arities), (page.passed, page.after, page.arities))
        self.assertIs(type(Page.from_line(LINE)), Page)

    def test_no_lines(self):
        for line in (
            "", "page", LINE + " ", " " + LINE, LINE + "\n", LINE + " x", LINE[:-2], LINE.replace("page", "Page"),
            LINE.replace(" m ", "  m "), LINE.replace(" m ", " "), LINE.replace("inner", "outer"),
            LINE.replace("inner", "new"),
            LINE.replace("to", "into"), LINE.replace("pass", "past"), LINE.replace("then", "than"),
            LINE.replace("m", "M"),
            LINE.replace("4.1", "04.1"), LINE.replace("4.1", "4"), LINE.replace("4.1", "(4, 1)"),
            LINE.replace("1.0", "-1.0"),
            LINE.replace("1.0", "1.-0"), LINE.replace("2.1", "2.2"), LINE.replace("4.1", "5.2"),
            LINE.replace("then n", "then 1"),
            LINE.replace("then n", "then ninechars"), LINE.replace("2.1", "8.1").replace("4.1", "10.1"),
            LINE.replace(" ", "\t"),
            "page m last 4.1 to 6.1 pass -1.0 then m", "page m last 4.1 to 2.2 pass 1.0 then m",
            "page m inner 10.1 to 6.1 pass 2.0 then m", "page m inner -3.1 to 1.1 pass -2.0 then m",
            "page m inner 9.1 to 3.1 pass 3.0 then m", "page m last 4.1 to 4.1 pass 0.0 to m", "first s",
            "read s 1.1 o",
            " ".join(LINE.split()[::-1]), LINE + " " + LINE,
        ):
            with self.subTest(line=line):
                check_raises(self, ParseError, lambda: Page.from_line(line), None)
        for length in range(len(LINE)):
            check_raises(self, ParseError, lambda: Page.from_line(LINE[:length]), None)

    def test_values_of_every_kind(self):
        for value in odd_values() + [LINE.split(" "), tuple(LINE.split(" ")), [LINE], PAGE]:
            with self.subTest(value=value):
                check_raises(self, ParseError, lambda: Page.from_line(value), None)


class Machines(unittest.TestCase):
    def test_pages_ascend_by_place(self):
        for order in itertools.permutations(PAIRS.machine.pages[7:12]):
            self.assertEqual(Machine(2, order).pages, PAIRS.machine.pages[7:12])
        table = {page.place: page for page in (PAIRS.machine.pages + TRIPLES.machine.pages) if 2 in page.arities}
        machine = Machine(2, tuple(table.values()))
        self.assertEqual([page.place for page in machine.pages], sorted(table))
        self.assertEqual(machine.pages[0].raw, (0, 1))
        last = [page.raw for page in machine.pages if page.where == "last"]
        self.assertEqual(last, sorted(last))
        self.assertEqual(last[0], (-1, 1))

    def test_notes(self):
        first = Page("z", "last", (1, 1), (2, 0), (0, 0), "b")
        second = Page("c", "inner", (1, 1), (1, 1), (0, 0), "z")
        self.assertEqual(Machine(3, (first, second)).notes, ("b", "c", "z"))
        self.assertEqual((Machine(2, ()).notes, Machine(2, ()).pages, Machine(3, ()).arity), ((), (), 3))

    def test_150_pages_at_most(self):
        many = [Page(note, where, (left, right), (left, right), (0, 0), note)
                for note in "abc" for where in ("inner", "last") for left in range(6) for right in range(5)]
        for number in (149, 150):
            self.assertEqual(len(Machine(2, tuple(many[:number]))), number)
        for number in (151, 152, 180):
            check_raises(self, InvalidPage, lambda: Machine(2, tuple(many[:number])))

    def test_no_two_pages_of_one_place(self):
        for pair in ((PAGE, PAGE), (PAGE, Page("m", "inner", (4, 1), (4, 1), (0, 0), "m")), (PAGE, OTHER, PAGE)):
            check_raises(self, InvalidPage, lambda: Machine(2, pair))
        self.assertEqual(len(Machine(2, (PAGE, OTHER))), 2)

    def test_all_pages_are_for_the_arity(self):
        three = Page("m", "inner", (4, 1), (1, 1), (1, 0), "m")
        both = Page("m", "last", (4, 0), (2, 2), (0, 0), "m")
        self.assertEqual([len(Machine(2, (PAGE, both))), len(Machine(3, (three, both)))], [2, 2])
        check_raises(self, InvalidPage, lambda: Machine(3, (both, PAGE)))
        check_raises(self, InvalidPage, lambda: Machine(2, (three,)))

    def test_wrong_values(self):
        no_arities = [
            (value, InvalidNumber) for value in (1, 4, 0, -2, True, None, "2", (2,), [2], 10 ** 60 + 2, PAIRS)
        ]
        no_pages = [(value, InvalidPage) for value in (
            None, [PAGE], PAGE, LINE, (LINE,), (PAGE, None), (PAGE, LINE), {0: PAGE}, (PAGE.place,), ((PAGE,),),
            (PAGE, PAGE), 1,
            PAIRS.machine,
        )]
        check_first_error(self, Machine, (2, (PAGE,)), (no_arities, no_pages))
        for value in odd_values():
            with self.subTest(value=value):
                if value != ():
                    check_raises(self, InvalidPage, lambda: Machine(3, value))
                if type(value) is not int or value not in (2, 3):
                    check_raises(self, InvalidNumber, lambda: Machine(value, ()), value)

    def test_never_changes(self):
        machine = Machine(2, (PAGE, OTHER))
        for name in ("arity", "pages", "notes"):
            with self.assertRaises(AttributeError):
                setattr(machine, name, None)

    def test_lookup(self):
        machine = PAIRS.machine
        for page in machine.pages:
            self.assertEqual(machine[page.place], page)
            self.assertIs(page.place in machine, True)
            self.assertIs(page in machine, True)
        for value in (
            PAGE, Page("m", "inner", (4, 1), (4, 1), (0, 0), "m"), Page("m", "inner", (5, 1), (3, 1), (1, 0), "m"),
            ("m", "inner", (3, 1)), ("n", "inner", (4, 1)), ("m", "last", (0, 1)), ("m", "inner"),
            ("m", "inner", (4, 1), 0),
            ["m", "inner", (4, 1)], ("m", "inner", [4, 1]), (["m"], "inner", (4, 1)), ("m", ["inner"], (4, 1)),
            ("m", "inner", (4, True)), ("m", "inner", (True, 4)), ("m", "inner", (0, True)), ("m", "last", (False, 4)),
            PAIRS.machine.pages[0].line, 0, 1, -1, None, True, (), machine, slice(0, 1),
        ):
            with self.subTest(value=value):
                self.assertIs(value in machine, False)
                with self.assertRaises(UnknownName) as caught:
                    machine[value]
                self.assertIs(caught.exception.word, value)

    def test_values_of_every_kind_are_looked_up(self):
        machine = Machine(2, (PAGE, OTHER))
        for value in odd_values():
            for looked_up in (
                value, ("m", "inner", value), ("m", value, (4, 1)), (value, "inner", (4, 1)), (value, value, value),
            ):
                self.assertIs(looked_up in machine, False)
                with self.assertRaises(UnknownName) as caught:
                    machine[looked_up]
                self.assertIs(caught.exception.word, looked_up)

    def test_is_not_iterated_over(self):
        for call in (iter, list, tuple, sorted, set):
            with self.assertRaises(TypeError):
                call(PAIRS.machine)
        with self.assertRaises(TypeError):
            for _ in Machine(2, ()):
                pass

    def test_equality_len_and_str(self):
        machine = Machine(2, (PAGE, OTHER))
        self.assertTrue(machine == Machine(2, (OTHER, PAGE)))
        self.assertFalse(machine != Machine(2, (OTHER, PAGE)))
        self.assertEqual(
            [str(machine), str(Machine(3, ()))], ["machine of arity 2 with 2 pages", "machine of arity 3 with 0 pages"],
        )
        self.assertEqual([len(machine), len(Machine(3, ())), len(PAIRS.machine)], [2, 0, 26])
        self.assertIs(Machine(2, ()) == Machine(3, ()), False)
        self.assertIs(machine == Machine(2, (PAGE,)), False)
        self.assertIs(machine != Machine(2, (OTHER,)), True)
        for value in odd_values() + [machine.pages, PAGE]:
            self.assertIs(machine == value, False)


class Steps(unittest.TestCase):
    def test_by_a_page_or_as_it_is_or_broken(self):
        for machine in (PAIRS.machine, TRIPLES.machine, wide().machine, Machine(3, ())):
            table = {page.place: page for page in machine.pages}
            for note, where, raw in itertools.product(("m", "n", "k", "x"), ("inner", "last"), RAWS):
                page = table.get((note, where, raw))
                if page is not None:
                    expected = (page.form, page.passed, page.after)
                elif raw in FORMS:
                    expected = (raw, (0, 0), note)
                else:
                    expected = None
                self.assertEqual(machine.step(note, where, raw), expected)

    def test_wrong_values(self):
        wrong = [[(value, InvalidOperation) for value in values] for values in (NO_NAMES, NO_WHERES, NO_RAWS)]
        for at, right in enumerate((("m",), ("inner",), ((4, 1),))):
            values = [
                ("m", "inner", (4, 1))[:at] + (value,) + ("m", "inner", (4, 1))[at + 1:] for value, _ in wrong[at]
            ]
            for arguments in values:
                with self.subTest(arguments=arguments):
                    check_raises(self, InvalidOperation, lambda: PAIRS.machine.step(*arguments))
        check_raises(self, InvalidOperation, lambda: PAIRS.machine.step(None, None, None))

    def test_values_of_every_kind(self):
        for value in odd_values():
            with self.subTest(value=value):
                if value not in ("a", "abcdefgh"):
                    check_raises(self, InvalidOperation, lambda: PAIRS.machine.step(value, "last", (1, 2)))
                check_raises(self, InvalidOperation, lambda: PAIRS.machine.step("m", value, (1, 2)))
                if value != (1, 2):
                    check_raises(self, InvalidOperation, lambda: PAIRS.machine.step("m", "last", value))
        self.assertEqual(PAIRS.machine.step("abcdefgh", "last", (1, 2)), ((1, 2), (0, 0), "abcdefgh"))


def run_by_hand(machine, note, pair, row):
    """What happens in a row, as [0.11] to [0.13] tell."""
    forms, done, level = [], [], 0
    while level < len(row) or pair != (0, 0):
        form = row[level] if level < len(row) else (0, 0)
        where = "inner" if level < len(row) - 1 else "last"
        raw = (form[0] + pair[0], form[1] + pair[1])
        result = machine.step(note, where, raw)
        done.append((where, raw, result))
        if result is None:
            return None, tuple(done)
        forms.append(result[0])
        pair, note = result[1], result[2]
        level += 1
    while forms and forms[-1] == (0, 0):
        forms.pop()
    return tuple(forms), tuple(done)


class Runs(unittest.TestCase):
    def test_by_hand(self):
        rng = random.Random(4)
        machines = [PAIRS.machine, TRIPLES.machine, wide().machine, Machine(2, ())]
        for _ in range(30):
            arity = rng.choice((2, 3))
            table = {page.place: page for page in (random_page(rng, arity, "mn") for _ in range(120))}
            machines.append(Machine(arity, tuple(table.values())))
        broken = 0
        for _ in range(4000):
            machine, note = rng.choice(machines), rng.choice("mnk")
            row = tuple(rng.choice(FORMS[1:30]) for _ in range(rng.randint(0, 6)))
            pair = rng.choice(PASSES)
            found = machine.run(note, pair, row)
            self.assertEqual(found, run_by_hand(machine, note, pair, row))
            self.assertEqual([type(part) for part in found[1:]], [tuple])
            broken += found[0] is None
        self.assertTrue(500 < broken < 3500)

    def test_of_the_document(self):
        machine = Machine(2, (PAGE, OTHER))
        self.assertEqual(machine.run("m", (1, 0), ((3, 1), (1, 1)))[0], ((2, 1), (2, 1)))
        self.assertEqual(machine.run("m", (1, 0), ((3, 1),))[0], ((2, 1), (1, 0)))
        self.assertEqual(machine.run("m", (-1, 0), ((0, 1),)), (None, (("last", (-1, 1), None),)))

    def test_the_empty_row(self):
        machine = Machine(2, ())
        self.assertEqual(machine.run("m", (0, 0), ()), ((), ()))
        self.assertEqual(machine.run("m", (0, 1), ()), (((0, 1),), (("last", (0, 1), ((0, 1), (0, 0), "m")),)))
        self.assertEqual(machine.run("m", (2, 2), ())[0], ((2, 2),))
        self.assertEqual(machine.run("m", (-1, 1), ()), (None, (("last", (-1, 1), None),)))
        crossing = Machine(2, (Page("m", "last", (-2, 2), (0, 0), (0, 0), "m"),))
        self.assertEqual(crossing.run("m", (-2, 2), ())[0], ())

    def test_goes_on_if_nothing_comes_to_a_level(self):
        tidy = Machine(
            2, (Page("m", "inner", (7, 0), (3, 0), (2, 0), "n"), Page("n", "last", (2, 7), (2, 3), (0, 2), "m")),
        )
        new, steps = tidy.run("m", (0, 0), ((1, 1), (7, 0), (0, 7)))
        self.assertEqual(new, ((1, 1), (3, 0), (2, 3), (0, 2)))
        self.assertEqual([step[0] for step in steps], ["inner", "inner", "last", "last"])

    def test_levels_of_nothing_are_cut_off_inside_only(self):
        take = Machine(
            2, (Page("m", "last", (-1, 1), (0, 0), (0, 0), "m"), Page("m", "inner", (-1, 1), (1, 1), (-1, 0), "m")),
        )
        self.assertEqual(take.run("m", (-1, 0), ((0, 0), (0, 1)))[0], None)
        self.assertEqual(take.run("m", (-1, 0), ((0, 1), (0, 1)))[0], ((1, 1),))
        self.assertEqual(take.run("m", (-1, 0), ((1, 0), (0, 0), (0, 1)))[0], ((0, 0), (0, 0), (0, 1)))
        self.assertEqual(take.run("m", (-1, 0), ((1, 0),)), ((), (("last", (0, 0), ((0, 0), (0, 0), "m")),)))

    def test_new_levels_as_long_as_something_comes(self):
        down = Machine(2, (
            Page("m", "last", (7, 2), (1, 0), (2, 2), "m"), Page("m", "last", (2, 2), (0, 0), (1, 1), "m"),
            Page("m", "last", (1, 1), (0, 0), (0, 1), "n"),
        ))
        new, steps = down.run("m", (0, 2), ((7, 0),))
        self.assertEqual(new, ((1, 0), (0, 0), (0, 0), (0, 1)))
        self.assertEqual([(where, raw) for where, raw, _ in steps], [
            ("last", (7, 2)), ("last", (2, 2)), ("last", (1, 1)), ("last", (0, 1)),
        ])

    def test_200_levels(self):
        row = ((3, 3),) * 200
        new, steps = PAIRS.machine.run("m", (1, 0), row)
        self.assertEqual((new, len(steps)), (((2, 3),) * 200 + ((1, 0),), 201))
        new, steps = PAIRS.machine.run("m", (-1, 0), ((1, 1),) * 199 + ((0, 1),))
        self.assertEqual((new, len(steps)), (((2, 1),) * 199, 200))
        check_raises(self, InvalidRow, lambda: PAIRS.machine.run("m", (1, 0), ((1, 1),) * 201))

    def test_wrong_values(self):
        no_notes = [(value, InvalidOperation) for value in NO_NAMES]
        no_pairs = [(value, InvalidOperation) for value in NO_PASSES]
        no_rows = [
            (value, InvalidRow) for value in (((0, 0),), ((8, 0),), [(1, 1)], None, "1.1", ((1, 1),) * 201, PAIRS)
        ]
        check_first_error(self, PAIRS.machine.run, ("m", (1, 0), ((1, 1),)), (no_notes[:4], no_pairs[:4], no_rows))
        for value, error in no_notes:
            check_raises(self, error, lambda: PAIRS.machine.run(value, (1, 0), ((1, 1),)))
        for value, error in no_pairs:
            check_raises(self, error, lambda: PAIRS.machine.run("m", value, ((1, 1),)))

    def test_values_of_every_kind(self):
        for value in odd_values():
            with self.subTest(value=value):
                if value not in ("a", "abcdefgh"):
                    check_raises(self, InvalidOperation, lambda: PAIRS.machine.run(value, (1, 0), ()))
                if value != (1, 2):
                    check_raises(self, InvalidOperation, lambda: PAIRS.machine.run("m", value, ()))
                if value not in ((), ((1, 2),)):
                    check_raises(self, InvalidRow, lambda: PAIRS.machine.run("m", (1, 0), value))


if __name__ == "__main__":
    unittest.main()
