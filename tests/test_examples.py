"""The examples of the document, each with the answer that stands under it."""

import unittest

from fingerbooks.base import forms, words

EXAMPLES = (
    (
        '[is_integer(10 ** 60), is_count(True), is_name("ninechars"), is_renaming(("a", "b"), {"b": "a", "a": "b"})]',
        "[False, False, False, True]",
    ),
    (
        '[read_row("2.3 1.0"), write_row(()), length_of(2, ((2, 3), (1, 0))), sides_of(3, ((2, 3), (0, 0), (0, 1))), '
        'read_pair("-1.3")]',
        "[((2, 3), (1, 0)), '-', 7, (2, 12), (-1, 3)]",
    ),
    (
        "[trimmed(((1, 0), (0, 0))), mirrored_row(((1, 0), (2, 5))), levels_for(2, 15), levels_for(3, 0), "
        "is_form((8, 0))]",
        "[((1, 0),), ((0, 1), (5, 2)), (2, 4), (0, 0), False]",
    ),
)


class Examples(unittest.TestCase):
    def test_answers_are_those_of_the_document(self):
        names = {**vars(words), **vars(forms)}
        for asked, answer in EXAMPLES:
            with self.subTest(asked=asked):
                self.assertEqual(repr(eval(asked, dict(names))), answer)


if __name__ == "__main__":
    unittest.main()
