"""The examples of the document, each with the answer that stands under it."""

import unittest

from fingerbooks.base import forms, words
from fingerbooks.book import books, pages
from fingerbooks import errors
from fingerbooks.decide import churn, levels, papers, plans, prices, tables
from fingerbooks.deeds import rows
from fingerbooks.read import depth, readers
from fingerbooks.seq import places, sequences
from fingerbooks.text import shell, texts
from fingerbooks.use import bench
from tests.books import PAIRS, TIGHT
from tests.checks import check_raises

MODULES = (
    words, forms, readers, pages, books, depth, rows, places, sequences, tables, papers, levels, plans, churn, prices,
    bench, texts, shell,
)

# Pairs of what is asked and the answer; what has no answer gives names to values for what follows.
EXAMPLES = (
    (
        '[is_integer(10 ** 60), is_count(True), is_name("ninechars"), is_renaming(("a", "b"), {"b": "a", "a": "b"})]',
        "[False, False, False, True]",
    ),
    (
        '[read_row("2.3 1.0"), write_row(()), length_of(2, ((2, 3), (1, 0))), sides_of(3, ((2, 3), (0, 0), (0, 1))), '
        'read_pair("-1.3")]',
        "[((2, 3), (1, 0)), '-', 7, (2, 12), (-1, 3)]",
    ),
    (
        "[trimmed(((1, 0), (0, 0))), mirrored_row(((1, 0), (2, 5))), levels_for(2, 15), levels_for(3, 0), "
        "is_form((8, 0))]",
        "[((1, 0),), ((0, 1), (5, 2)), (2, 4), (0, 0), False]",
    ),
    ("reader, tight = PAIRS.reader, TIGHT.reader", None),
    (
        "[str(reader), reader.behind(((1, 3), (0, 2))), reader.behind(((0, 1), (1, 1))), "
        "reader.takes(((1, 1), (0, 0))), len(reader.least())]",
        "['reader with 3 states, 30 reads', 'e', '', False, 3]",
    ),
    (
        "[is_including(reader, tight), is_including(tight, reader), length_of(2, parting_row(2, reader, tight)), "
        "reader.spare]",
        "[True, False, 3, ()]",
    ),
    ('page = Page.from_line("page m inner 4.1 to 2.1 pass 1.0 then m")', None),
    (
        '[page.place, page.arities, page.mirrored().line, Page("m", "last", (4, 0), (2, 2), (0, 0), "m").arities]',
        "[('m', 'inner', (4, 1)), (2,), 'page m inner 1.4 to 1.2 pass 0.1 then m', (2, 3)]",
    ),
    ('machine = Machine(2, (page, Page.from_line("page m last 4.1 to 2.1 pass 1.0 then m")))', None),
    (
        '[machine.step("m", "inner", (4, 1)), machine.step("m", "last", (3, 1)), machine.step("m", "last", (-1, 1))]',
        "[((2, 1), (1, 0), 'm'), ((3, 1), (0, 0), 'm'), None]",
    ),
    (
        'machine.run("m", (1, 0), ((3, 1), (1, 1)))',
        "(((2, 1), (2, 1)), (('inner', (4, 1), ((2, 1), (1, 0), 'm')), ('last', (2, 1), ((2, 1), (0, 0), 'm'))))",
    ),
    (
        '[machine.run("m", (1, 0), ((3, 1),))[0], machine.run("m", (-1, 0), ((0, 1),))]',
        "[((2, 1), (1, 0)), (None, (('last', (-1, 1), None),))]",
    ),
    (
        "[str(PAIRS), PAIRS.is_right(((1, 3), (0, 2))), PAIRS.is_right(((0, 1), (1, 1))), PAIRS.mirrored() == PAIRS]",
        "['book of arity 2, 3 states, 26 pages', True, False, True]",
    ),
    (
        '[len(TIGHT), TIGHT.lines[1:3], TIGHT.without("read o 2.0 e").is_right(((1, 1), (2, 0))), '
        'str(TIGHT.with_line("arity 2")) == str(TIGHT)]',
        "[41, ('first s', 'ends e o'), False, True]",
    ),
    (
        "[[least_length(PAIRS, levels) for levels in range(4)], most_length(PAIRS, 2), missing_length(PAIRS)]",
        "[[0, 1, 4, 10], 18, None]",
    ),
    ('fewer = PAIRS.without("read o 0.1 e").without("read o 1.0 e").without("read s 3.3 o")', None),
    ('loose = PAIRS.with_line("read s 0.1 o").with_line("read o 0.1 o")', None),
    (
        '[missing_length(TIGHT), least_length(fewer, 2), depth_bound(PAIRS, "left"), deep_row(PAIRS, "left", 0), '
        'deep_row(PAIRS, "left", 1)]',
        "[None, 6, 0, ((1, 0),), None]",
    ),
    (
        '[depth_bound(loose, "left"), depth_bound(loose, "right"), length_of(2, deep_row(loose, "left", 2))]',
        "[None, 0, 7]",
    ),
    ('less = PAIRS.without("page m last -1.1 to 0.0 pass 0.0 then m")', None),
    (
        '[new_row(PAIRS, ((3, 3),), "pushl"), new_row(PAIRS, ((1, 1), (0, 1)), "popl"), '
        'touched(PAIRS, ((1, 1), (0, 1)), "popl")]',
        "[((2, 3), (1, 0)), ((2, 1),), (0, 1)]",
    ),
    (
        '[new_row(less, ((1, 1), (0, 1)), "popl"), broken_at(less, ((1, 1), (0, 1)), "popl"), '
        'touched(PAIRS, ((2, 1), (0, 1)), "pushl")]',
        "[None, 1, (0,)]",
    ),
    ('steps(less, ((1, 1), (0, 1)), "popl")', "(('inner', (0, 1), ((2, 1), (-1, 0), 'm')), ('last', (-1, 1), None))"),
    (
        '[row_after(PAIRS, (), ("pushl",) * 5), lengths_along(PAIRS, ((0, 2),), ("popr", "popr", "pushr"))]',
        "[((3, 2),), (2, 1, 0, 1)]",
    ),
    ("row = ((1, 1), (1, 0), (0, 1))", None),
    (
        '[spans(2, row), place_of(2, row, 5), number_of(2, row, (2, "right", 0, (1, 0))), outward(2, row, 5)]',
        "[((0, 'left', 0, 1), (1, 'left', 1, 3), (2, 'right', 3, 7), (0, 'right', 7, 8)), (2, 'right', 0, (1, 0)), 5, "
        "(2, 2)]",
    ),
    (
        '[beside(2, row, (0, "left", 0, ())), is_place(2, row, (1, "left", 0, (2,)))]',
        "[(None, (1, 'left', 0, (0,))), False]",
    ),
    (
        '[place_behind(PAIRS, ((3, 1), (1, 1)), "pushl", 2), place_behind(PAIRS, ((1, 1),), "popl", 0), '
        'staying(PAIRS, ((3, 1), (1, 1)), "pushl")]',
        "[(1, 'left', 0, (1,)), None, 3]",
    ),
    ("six = Sequence(PAIRS, (1, 2, 3, 4, 5, 6))", None),
    (
        "[str(six), six.outline, six.sides(0), six.sides(1), six.right_end, six[2], six.popl().popl().popl().outline]",
        "['sequence of 6 elements, 2 levels', ((2, 2), (0, 1)), (((1,), (2,)), ((5,), (6,))), ((), ((3, 4),)), 6, 3, "
        "((1, 2),)]",
    ),
    (
        "[six.with_nth(2, 7).content, six.elder(many=4).content, six.mirrored().sides(1), six.pushl(0).popl() == six]",
        "[(1, 2, 7, 4, 5, 6), (1, 2), (((4, 3),), ()), True]",
    ),
    ('table, start = Table(PAIRS, "pushl"), start_of(PAIRS, "pushl")', None),
    (
        "[start, str(table), table.finals]",
        "[('s', (1, 0), 'm', 's', True), 'table of 6 stands, 0 wrong', (('', (0, 0), 'm', 'e', True), "
        "('', (0, 0), 'm', 'o', True))]",
    ),
    (
        '[len(moves(PAIRS, "pushl", start)), moves(PAIRS, "pushl", start)[-1], '
        'len(moves(PAIRS, "popl", start_of(PAIRS, "popl")))]',
        "[31, ('new', (0, 0), ('', (0, 0), 'm', 'e', True)), 30]",
    ),
    ('loose = PAIRS.without("page m inner 0.2 to 2.2 pass -1.0 then m")', None),
    (
        '[Table(loose, "pushl").is_good, Table(loose, "popl").is_good, is_final(loose, ("", (0, 0), "m", "", False))]',
        "[True, False, True]",
    ),
    (
        '[is_good(PAIRS, "popl"), least_bad(less, "popl"), paper(less, "popl"), '
        'is_paper(less, "popl", ("bad", ((1, 1), (0, 1)))), least_bad(less, "popr")]',
        "[True, ((0, 1),), ('bad', ((0, 1),)), True, None]",
    ),
    ('stands_of(PAIRS, ((1, 0),), "popl")', "(('s', (-1, 0), 'm', 's', True), ('', (0, 0), 'm', '', True))"),
    ('row_along(PAIRS, "popl", stands_of(PAIRS, ((1, 0),), "popl")) in (((0, 1),), ((1, 0),))', "True"),
    (
        '[most_touched(PAIRS, "pushl"), most_reached(TIGHT, "popr"), '
        '[least_length_for(PAIRS, "pushl", many) for many in range(4)]]',
        "[None, None, [0, 0, 4, 12]]",
    ),
    (
        'plain = Book.from_lines("arity 2", "first s", "ends o", "read s 0.1 o", "read s 1.0 o", "read s 1.1 o", '
        '"start pushl m", "start pushr m", "start popl m", "start popr m")',
        None,
    ),
    (
        '[most_touched(plain, "pushl"), busy_row(plain, "pushl", 1), busy_row(plain, "popl", 2), '
        'length_of(2, busy_row(PAIRS, "popl", 2))]',
        "[1, (), None, 4]",
    ),
    (
        '[leads_back(PAIRS, ("pushl", "popl")), straying_row(PAIRS, ("pushl", "popl")), '
        'leads_back(TIGHT, ("pushl", "popl"))]',
        "[False, ((3, 0),), False]",
    ),
    (
        '[are_alike(PAIRS, ("pushl", "pushr"), ("pushr", "pushl")), are_alike(PAIRS, ("pushl",), ("pushl",)), '
        'is_plan(("pushl",) * 5)]',
        "[False, True, False]",
    ),
    ('[sum(form) for form in unlike_row(PAIRS, ("pushl", "pushr"), ("pushr", "pushl"))]', "[3]"),
    (
        '[failing_row(PAIRS, ("popl", "popr")), length_of(2, failing_row(loose, ("popl",))), '
        'failing_row(loose, ("pushl", "popl"))]',
        "[None, 5, None]",
    ),
    (
        '[churn_bound(PAIRS, ("pushl", "popl")), churn_bound(TIGHT, ("pushl", "popl")), '
        'churn_bound(TIGHT, ("pushl",))]',
        "[1, None, 0]",
    ),
    ('churning = churning_row(TIGHT, ("pushl", "popl"), 2)', None),
    (
        '[length_of(2, churning), churning_row(PAIRS, ("pushl", "popl"), 2), '
        'is_churning(TIGHT, ("pushl", "popl"), ((2, 1), (2, 2)))]',
        "[5, None, True]",
    ),
    ("side = (0, 1, 0, 1)", None),
    ("steady = {(left, right): side[left] + side[right] for left in range(4) for right in range(4)}", None),
    (
        '[[least_price(PAIRS, deed, steady) for deed in DEEDS], least_price(TIGHT, "pushl", {}), '
        'price_of(PAIRS, ((3, 1),), "pushl", steady)]',
        "[[2, 2, 2, 2], None, 2]",
    ),
    (
        '[price_paper(PAIRS)[0], price_paper(TIGHT)[0], is_price_paper(PAIRS, ("price", 1, steady, 2)), '
        'is_price_paper(PAIRS, ("price", 1, steady, 1))]',
        "['price', 'rings', True, False]",
    ),
    (
        '[potential_of(steady, ((3, 1), (0, 2))), dear_row(PAIRS, "pushl", steady, 1), '
        'dear_row(PAIRS, "pushl", steady, 2)]',
        "[2, (), None]",
    ),
    ("bench = Bench(TIGHT)", None),
    ('[bench.demand(("good", "pushl")), str(bench)]', "[(), 'bench with 41 lines, 1 pledges']"),
    ('bench.demand(("back", ("pushr",) * 2))', "raises Refused"),
    (
        '[bench.loss("page m last 3.0 to 1.2 pass 0.0 then m"), '
        'bench.erase("page m inner 0.2 to 2.2 pass -1.0 then m")]',
        "[('pushl',), (('popl', False),)]",
    ),
    (
        '[read_pledge("levels popl 3"), write_pledge(("calm", ("pushl", "popl"))), bench.undo(), '
        '("good", "pushl") in bench]',
        "[('levels', 'popl', 3), 'calm pushl+popl', (('popl', True),), True]",
    ),
    (
        '[write_stand(start_of(PAIRS, "popl")), read_stand(". 0.0 m . yes"), write_plan(("pushl", "popl")), '
        'write_paper(paper(less, "popl"))]',
        "['s -1.0 m s yes', ('', (0, 0), 'm', '', True), 'pushl+popl', 'bad\\n0.1']",
    ),
    ("shell = Shell(write_book(PAIRS))", None),
    (
        '[shell(f"pushr {number}") for number in (4, -5, 6, 7, 8, 9)][3:] + '
        '[shell("content"), shell("place 2"), shell("at 3"), shell("do popl in 1.1 0.1")]',
        "['2.2', '2.3', '2.2 0.1', '4 -5 6 7 8 9', '1 right 0 0', '7', '2.1']",
    ),
    (
        '[shell("good popl"), shell("demand good popl"), shell("erase page m last -1.1 to 0.0 pass 0.0 then m"), '
        'shell("touched popl in 1.1 0.1"), shell("fly"), len(shell)]',
        "['yes', 'nothing', 'refused good popl', '0 1', 'what', 13]",
    ),
)


def is_told_by(module, thing):
    """Whether a thing is defined in a module, or is a constant of it."""
    return getattr(thing, "__module__", module.__name__) == module.__name__


class Examples(unittest.TestCase):
    def test_answers_are_those_of_the_document(self):
        names = {"PAIRS": PAIRS, "TIGHT": TIGHT}
        for module in MODULES:
            names.update({name: thing for name, thing in vars(module).items() if is_told_by(module, thing)})
        for asked, answer in EXAMPLES:
            with self.subTest(asked=asked):
                if answer is None:
                    exec(asked, names)
                elif answer.startswith("raises "):
                    check_raises(self, getattr(errors, answer[7:]), lambda: eval(asked, names))
                else:
                    self.assertEqual(repr(eval(asked, names)), answer)


if __name__ == "__main__":
    unittest.main()
