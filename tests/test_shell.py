"""Promise 17.2 and the interface of fingerbooks.text.shell."""

import random
import unittest

from fingerbooks.base.forms import write_row
from fingerbooks.book.books import DEEDS
from fingerbooks.decide import tables
from fingerbooks.decide.papers import is_good, is_paper
from fingerbooks.decide.tables import Table
from fingerbooks.deeds.rows import broken_at, new_row, touched
from fingerbooks.errors import (
    Broken, EmptySequence, InvalidBook, InvalidPage, InvalidReader, ParseError, TooMany,
)
from fingerbooks.seq.sequences import Sequence
from fingerbooks.text.shell import Shell
from fingerbooks.text.texts import read_paper, write_book
from fingerbooks.use.bench import Bench, write_pledge
from tests.books import LESS, PAIRS, TIGHT, TRIPLES
from tests.checks import check_raises
from tests.trying import FLAT, can_be_done, rows_up_to, some_books
from tests.values import odd_values

EMPTIED = "page m last -1.1 to 0.0 pass 0.0 then m"
NO_COMMANDS = (
    "", " ", "fly", "Draw", "draw", "erase", "demand", "waive", "undo 1", "undo ", " undo", "redo 1", "lines ",
    "lines all",
    "pledges ", "good", "good ", "good pop", "good popl ", "good  popl", "good popl popr", "table", "table pop",
    "paper",
    "paper none", "do", "do popl", "do popl in", "do popl in ", "do popl 1.1", "do popl in 1.1 in 0.1", "do pop in 1.1",
    "do popl in 1.1 0.0", "do popl in 8.1", "do popl in  1.1", "do in 1.1", "do  in 1.1", "do popl in ()",
    "do popl on -",
    "touched popl", "touched popl in x", "touched in -", "pushl", "pushl ", "pushl x", "pushl 1 2", "pushl +1",
    "pushl 01",
    "pushl -0", "pushl 1.0", "pushl " + "1" * 61, "pushr", "pushr True", "popl 1", "popl ", "popr 1", "clear all",
    "clear ",
    "content ", "content 1", "at", "at ", "at -1", "at x", "at 01", "at " + "9" * 61, "at 1 2", "place", "place -1",
    "place x",
    "demand good", "demand fly", "demand good pop", "waive good", "waive levels popl", "demand levels popl -1",
    "undo\n",
    "good popl\n", "POPL", "pop", "push", "in", " in ", "what", "bench", "sequence", "answer",
)


def shell_of(book):
    return Shell(write_book(book))


class Interface(unittest.TestCase):
    def test_all_is_defined_here(self):
        self.assertEqual(Shell.__module__, "fingerbooks.text.shell")
        for name in ("__call__", "answer", "bench", "sequence", "__len__"):
            self.assertIn(name, vars(Shell))


class Made(unittest.TestCase):
    def test_of_a_text(self):
        shell = shell_of(PAIRS)
        self.assertEqual(shell.bench(), Bench(PAIRS))
        self.assertEqual(shell.sequence(), Sequence(PAIRS))
        self.assertEqual(len(shell), 0)

    def test_errors(self):
        lines = list(PAIRS.lines)
        for value, kept in ((None, None), ("", 0), ("\n".join(lines + ["x"]), len(lines))):
            check_raises(self, ParseError, lambda: Shell(value), kept)
        check_raises(self, InvalidBook, lambda: Shell("\n".join(lines[1:])))
        check_raises(self, InvalidReader, lambda: Shell("\n".join(lines[:1] + lines[2:])))
        check_raises(self, InvalidPage, lambda: Shell("\n".join(["arity 3"] + lines[1:])))
        for value in odd_values():
            with self.subTest(value=value):
                check_raises(self, ParseError, lambda: Shell(value), 0 if isinstance(value, str) else None)
        kept = tables.MAX_TABLE
        try:
            tables.MAX_TABLE = 3
            check_raises(self, TooMany, lambda: shell_of(PAIRS), 3)
        finally:
            tables.MAX_TABLE = kept


class Commands(unittest.TestCase):
    def check(self, shell, *asked):
        """Ask commands, and compare the answers."""
        for line, answer in asked:
            self.assertEqual((line, shell(line)), (line, answer))

    def test_of_the_document(self):
        shell = shell_of(PAIRS)
        self.assertEqual(
            [shell(f"pushr {number}") for number in (4, -5, 6, 7, 8, 9)][3:]
            + [shell("content"), shell("place 2"), shell("at 3"), shell("do popl in 1.1 0.1")],
            ["2.2", "2.3", "2.2 0.1", "4 -5 6 7 8 9", "1 right 0 0", "7", "2.1"],
        )
        self.check(
            shell, ("good popl", "yes"), ("demand good popl", "nothing"), (f"erase {EMPTIED}", "refused good popl"),
            ("touched popl in 1.1 0.1", "0 1"), ("fly", "what"),
        )
        self.assertEqual(len(shell), 13)

    def test_changes(self):
        shell = shell_of(PAIRS)
        self.check(
            shell, (f"erase {EMPTIED}", "popl bad"), ("erase page m last 1.-1 to 0.0 pass 0.0 then m", "popr bad"),
            ("undo", "popr good"), ("redo", "popr bad"), ("start popl n", "what"), ("draw arity 2", "nothing"),
            (f"draw {EMPTIED}", "popl good"), ("undo", "popl bad"), ("redo", "popl good"), ("redo", "undo"),
            ("demand good popl", "nothing"), ("demand levels popl 3", "refused levels popl 3"),
            ("demand good popl", "operation"), ("waive good popr", "operation"),
            ("demand calm pushl+popl", "nothing"), ("pledges", "good popl; calm pushl+popl"),
            ("waive good popl", "nothing"), ("pledges", "calm pushl+popl"), ("undo", "nothing"),
            ("pledges", "good popl; calm pushl+popl"), ("draw start popl n", "refused good popl"),
        )
        bench = shell.bench()
        self.assertEqual([write_pledge(pledge) for pledge in bench.pledges], ["good popl", "calm pushl+popl"])
        both = shell_of(FLAT)
        self.check(both, ("draw page m last 2.1 to 1.0 pass 1.0 then m", "nothing"), ("pledges", "nothing"))
        lines = [line for line in PAIRS.lines if line.startswith("page m last -1.")]
        shell = shell_of(PAIRS)
        for line in lines:
            shell(f"erase {line}")
        self.assertIs(is_good(shell.bench().book, "popl"), False)
        # News of several deeds stand in the order of deeds.
        shell = shell_of(PAIRS)
        self.check(
            shell, ("draw read o 4.4 o", "pushl bad, pushr bad, popl bad, popr bad"),
            ("undo", "pushl good, pushr good, popl good, popr good"),
        )

    def test_the_book(self):
        for book in (PAIRS, TIGHT, LESS, FLAT):
            shell = shell_of(book)
            self.assertEqual(shell("lines"), "; ".join(book.lines))
            for deed in DEEDS:
                table = Table(book, deed)
                self.check(shell, (f"good {deed}", "yes" if table.is_good else "no"), (f"table {deed}", str(table)))
                told = shell(f"paper {deed}")
                if table.is_good:
                    self.assertEqual(told, "good")
                else:
                    self.assertTrue(told.startswith("bad; "))
                    self.assertIs(is_paper(book, deed, read_paper(told.replace("; ", "\n"))), True)
        self.check(shell_of(LESS), ("paper popl", "bad; 0.1"), ("table popl", str(Table(LESS, "popl"))))

    def test_deeds_in_rows(self):
        broken = 0
        for book in some_books(111, 3):
            shell = shell_of(book)
            many = 0
            for row in rows_up_to(book, 12, 30):
                for deed in DEEDS:
                    commands = [f"{word} {deed} in {write_row(row)}" for word in ("do", "touched")]
                    if not can_be_done(row, deed):
                        self.check(shell, (commands[0], "empty"), (commands[1], "empty"))
                        continue
                    new = new_row(book, row, deed)
                    expected = f"breaks at {broken_at(book, row, deed)}" if new is None else write_row(new)
                    levels = " ".join(str(level) for level in touched(book, row, deed))
                    self.check(shell, (commands[0], expected), (commands[1], levels))
                    broken += new is None
                    many += 2
            self.assertEqual(len(shell), many)
        self.assertGreater(broken, 50)
        self.check(
            shell_of(PAIRS), ("do popl in 4.1", "row"), ("do popl in 0.1 1.1", "row"), ("do pushl in -", "1.0"),
            ("do popl in 1.0", "-"), ("touched popr in 7.7", "row"), ("do popl in -", "empty"),
        )
        self.check(shell_of(LESS), ("do popl in 1.1 0.1", "breaks at 1"), ("touched popl in 1.1 0.1", "0 1"))

    def test_the_sequence(self):
        shell = shell_of(PAIRS)
        self.check(
            shell, ("content", "nothing"), ("popl", "empty"), ("popr", "empty"), ("at 0", "number"),
            ("place 0", "number"),
            ("pushl 7", "1.0"), ("place 0", "0 left 0"), ("pushr -8", "1.1"), ("pushl 0", "2.1"), ("content", "0 7 -8"),
            ("at 2", "-8"), ("at 3", "number"), ("place 3", "number"), ("place 2", "0 right 0"), ("popl", "1.1"),
            ("popr", "1.0"), ("popl", "-"), ("content", "nothing"), ("pushl " + "9" * 60, "1.0"), ("at 0", "9" * 60),
            ("clear", "-"), ("content", "nothing"), ("clear", "-"), ("pushl -1", "1.0"), ("content", "-1"),
        )

    def test_deep_places(self):
        shell = shell_of(PAIRS)
        for number in range(22):
            shell(f"pushr {number}")
        sequence = shell.sequence()
        self.assertEqual(shell("content"), " ".join(str(number) for number in range(22)))
        self.assertGreater(len(sequence.outline), 2)
        deepest = 0
        for number in range(22):
            level, side, index, *path = shell(f"place {number}").split(" ")
            self.assertEqual(len(path), int(level))
            deepest = max(deepest, len(path))
            bundles = sequence.sides(int(level))[("left", "right").index(side)]
            at = 0
            for part in path:
                at = 2 * at + int(part)
            self.assertEqual(bundles[int(index)][at], number)
        self.assertGreater(deepest, 1)

    def test_as_sequences_go(self):
        rng = random.Random(112)
        kinds = {"done": 0, "broken": 0, "empty": 0}
        for book in some_books(113, 4):
            shell, sequence = shell_of(book), Sequence(book)
            for _ in range(60):
                deed, number = rng.choice(DEEDS + ("pushl", "pushr")), rng.randint(-99, 99)
                put = deed.startswith("push")
                try:
                    method = getattr(sequence, deed)
                    sequence = method(number) if put else method()
                    expected = write_row(sequence.outline)
                    kinds["done"] += 1
                except Broken as error:
                    expected = f"broken {write_row(error.row)}"
                    kinds["broken"] += 1
                except EmptySequence:
                    expected = "empty"
                    kinds["empty"] += 1
                self.check(shell, (f"{deed} {number}" if put else deed, expected))
                self.assertEqual(shell.sequence(), sequence)
        self.assertGreater(min(kinds.values()), 50)

    def test_another_book_and_the_sequence_is_empty(self):
        shell = shell_of(PAIRS)
        for line in ("draw arity 2", f"draw {EMPTIED}", "demand good popl", "waive good popl", "undo", "redo"):
            shell("pushr 3")
            shell(line)
            self.assertNotEqual(shell("content"), "nothing", line)
        for line in (f"erase {EMPTIED}", "undo", "redo", f"draw {EMPTIED}"):
            shell("pushr 3")
            self.assertNotEqual(shell(line), "what")
            self.assertEqual(shell("content"), "nothing", line)
        # What is refused changes nothing.
        self.check(
            shell, ("pushr 3", "0.1"), ("demand good popl", "nothing"), (f"erase {EMPTIED}", "refused good popl"),
            ("draw fly", "line"), ("content", "3"),
        )
        self.assertEqual(shell.sequence().book, shell.bench().book)
        shell = shell_of(PAIRS)
        self.check(shell, ("pushr 3", "0.1"), ("draw start pushl x", "pushl bad"), ("pushr 3", "0.1"))
        self.assertEqual(shell.sequence().book, PAIRS.with_line("start pushl x"))

    def test_every_word_for_an_error(self):
        shell = shell_of(PAIRS)
        self.check(
            shell, ("draw first e", "reader"), ("draw arity 3", "page"), ("draw fly", "line"), ("draw ", "line"),
            ("erase fly", "unknown"), ("erase ", "unknown"), ("erase arity 2", "unknown"), ("undo", "undo"),
            ("redo", "undo"), ("waive good popl", "operation"), ("do popl in 4.4", "row"), ("popl", "empty"),
            ("at 0", "number"), ("demand levels pushl 1", "refused levels pushl 1"),
            ("demand back pushl+pushl", "refused back pushl+pushl"),
        )
        self.assertEqual(len(shell), 0)
        flat = shell_of(FLAT)
        self.check(
            flat, ("pushl 1", "1.0"), ("pushl 2", "broken 1.0"), ("pushr 3", "1.1"), ("pushl 4", "broken 1.1"),
            ("content", "1 3"),
        )
        for number in range(10):
            self.check(flat, (f"demand levels popl {number + 1}", "nothing"))
        self.check(flat, ("demand levels popl 11", "many 10"), ("demand levels popl 10", "operation"))
        self.assertEqual(len(flat), 13)

    def test_too_many(self):
        shell = shell_of(PAIRS)
        for number in range(5000):
            shell(f"pushl {number}")
        self.check(shell, ("pushr 1", "many 5000"), ("at 4999", "0"))
        self.assertEqual(len(shell), 5001)
        kept = tables.MAX_TABLE
        try:
            tables.MAX_TABLE = 3
            self.check(shell, ("good popl", "many 3"), (f"erase {EMPTIED}", "many 3"), ("at 0", "4999"))
        finally:
            tables.MAX_TABLE = kept

    def test_lines_with_in(self):
        # Only the row of a deed stands behind it: a line can be any text.
        shell = shell_of(PAIRS)
        self.check(shell, ("draw x in y", "line"), ("erase x in y", "unknown"), ("demand x in y", "what"))

    def test_what_is_none(self):
        shell = shell_of(PAIRS)
        shell("pushr 5")
        for line in NO_COMMANDS:
            self.check(shell, (line, "what"))
        for value in odd_values():
            self.assertEqual(shell(value), "what")
            self.assertEqual(shell.answer(value), "what")
        self.assertEqual(len(shell), 1)
        self.assertEqual([shell("content"), shell.bench() == Bench(PAIRS)], ["5", True])

    def test_answer_is_the_same(self):
        one, other = shell_of(TRIPLES), shell_of(TRIPLES)
        for line in ("pushr 1", "popl", "popl", "fly", "lines", "undo", "draw arity 3", "undo", "table popl"):
            self.assertEqual(one(line), other.answer(line))
        self.assertEqual(len(one), len(other))


class State(unittest.TestCase):
    def test_what_is_told_is_not_shared(self):
        shell = shell_of(PAIRS)
        bench = shell.bench()
        bench.erase(EMPTIED)
        bench.demand(("good", "popr"))
        self.assertEqual([shell("good popl"), shell("pledges"), shell("undo")], ["yes", "nothing", "undo"])
        shell("demand good popl")
        twin = shell.bench()
        self.assertEqual(twin.undo(), ())
        self.assertEqual(shell("pledges"), "good popl")
        sequence = shell.sequence()
        shell("pushl 1")
        self.assertEqual(len(sequence), 0)
        self.assertEqual(len(shell), 5)

    def test_two_shells(self):
        one, other = shell_of(PAIRS), shell_of(PAIRS)
        one("pushl 1")
        one(f"erase {EMPTIED}")
        self.assertEqual([other("content"), other("good popl"), len(other)], ["nothing", "yes", 2])

    def test_it_is_not_iterated_over(self):
        with self.assertRaises(TypeError):
            iter(shell_of(PAIRS))


if __name__ == "__main__":
    unittest.main()
