"""Values of every kind that can be passed, for tests of what judges or refuses them."""

from fingerbooks.decide.tables import Table
from fingerbooks.errors import InvalidRow, ParseError, UnknownName
from fingerbooks.seq.sequences import Sequence
from fingerbooks.text.shell import Shell
from fingerbooks.use.bench import Bench
from tests.books import PAIRS

# These two are equal to nothing but themselves.
TRIAL = Bench(PAIRS).trial()
SHELL = Shell("\n".join(PAIRS.lines))


def nested(depth, inner, wrap):
    for _ in range(depth):
        inner = wrap(inner)
    return inner


def odd_values():
    """Fresh ones at each call, so that no test can spoil them for another one."""
    deep = nested(7, 1, lambda value: (value,))
    mixed = nested(2, (1, "a"), lambda value: {"a": [value], (1, deep): (value, None)})
    return [
        0, 1, -1, 2, 3, 7, 8, 10 ** 59, 10 ** 60 - 1, 10 ** 60, -(10 ** 60), 10 ** 99, -(10 ** 100 - 1),
        True, False, None,
        "", "-", "a", "abcdefgh", "abcdefghi", "A", "a b", "a\n", "1.2", "1.2 3.4", "1.2\n3.4", "2", "~" * 4000,
        "a" * 4000,
        "\n" * 4000, "." * 4000, " " * 4000, "-" * 4000, "0" * 4000,
        (), (1,), (1, 2), (1, 2, 3), (True, False), (None, None), ("1", "2"), ((1, 2),), ((1, 2), (0, 0)), ([1, 2],),
        (("a", "b"), 1), ("a", "b"), ("a", "a"), ("a", 1), ((1, 2), None), ((1, 2), ()), (10 ** 60, 0),
        (10 ** 99, -(10 ** 99)),
        [], [1, 2], [(1, 2)], ["a"], [[]], [None, True],
        {}, {"a": "b"}, {1: 2}, {(1, 2): [3]}, {None: None}, {True: False},
        deep, nested(8, None, lambda value: [value]), nested(8, "a", lambda value: {"a": value}), mixed,
        InvalidRow("no row"), ParseError(None), UnknownName([1]), (InvalidRow("no row"),), [ParseError(3)],
        PAIRS, PAIRS.reader, PAIRS.machine, PAIRS.machine.pages[0], Sequence(PAIRS, (1, 2, 3)), Table(PAIRS, "popl"),
        (PAIRS, PAIRS.reader), [PAIRS.machine], {"s": PAIRS},
        Bench(PAIRS), (Bench(PAIRS), 1), TRIAL, SHELL,
    ]
