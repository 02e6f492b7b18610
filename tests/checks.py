"""Checks that several tests make: of errors with what they keep, and of which comes first."""

import itertools

from fingerbooks import errors

KEPT = {
    errors.ParseError: "number", errors.UnknownName: "word", errors.EmptySequence: "tried",
    errors.InvalidNumber: "value", errors.NothingToUndo: "many", errors.TooMany: "limit", errors.Broken: "row",
    errors.Refused: "pledge",
}
_ANYTHING = object()


def check_raises(test, error, call, kept=_ANYTHING):
    """A call raises just this error, which keeps just this."""
    with test.assertRaises(error) as caught:
        call()
    test.assertIs(type(caught.exception), error)
    if kept is not _ANYTHING:
        value = getattr(caught.exception, KEPT[error])
        test.assertEqual(value, kept)
        test.assertIs(type(value), type(kept))


def check_first_error(test, call, right, wrong):
    """With any wrong arguments at once, the error of the first one of them is raised, and keeps what it should.

    For each argument there is a right value, and a list of pairs of a wrong one and its error; where the error keeps
    something, this is the wrong value.
    """
    choices = [[(value, None)] + list(wrongs) for value, wrongs in zip(right, wrong)]
    for chosen in itertools.product(*choices):
        expected = [pair for pair in chosen if pair[1] is not None]
        if not expected:
            continue
        value, error = expected[0]
        with test.subTest(arguments=[pair[0] for pair in chosen]):
            kept = value if error in KEPT else _ANYTHING
            check_raises(test, error, lambda: call(*[pair[0] for pair in chosen]), kept)
