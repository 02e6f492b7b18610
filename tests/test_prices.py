"""Promises 15.1 and 15.2 and the interface of fingerbooks.decide.prices."""

import itertools
import random
import unittest

from fingerbooks.book.books import DEEDS, Book
from fingerbooks.decide import tables
from fingerbooks.decide.levels import least_length_for, most_touched
from fingerbooks.decide.prices import dear_row, is_price_paper, least_price, potential_of, price_of, price_paper
from fingerbooks.decide.solving import Demands
from fingerbooks.decide.tables import Table, is_final, moves
from fingerbooks.errors import EmptySequence, InvalidBook, InvalidNumber, InvalidOperation, InvalidRow, TooMany
from tests.books import FORMS, LESS, PAIRS, TIGHT, TRIPLES, plain, size
from tests.checks import check_first_error, check_raises
from tests.trying import EMPTY, FLAT, can_be_done, check_least, deed_done, loose_book, rows_up_to, some_books
from tests.values import odd_values

SIDE = (0, 1, 0, 1)
STEADY = {(left, right): SIDE[left] + SIDE[right] for left in range(4) for right in range(4)}
# In TIGHT puts are paid for by sides of two, and takes by sides of one, but nothing pays for both.
FOR_PUTS = {(left, right): (left == 2) + (right == 2) for left in range(3) for right in range(3)}
FOR_TAKES = {(left, right): (left == 1) + (right == 1) for left in range(3) for right in range(3)}
FOR_PUTS, FOR_TAKES = [{form: int(worth) for form, worth in kind.items()} for kind in (FOR_PUTS, FOR_TAKES)]
NO_POTENTIALS = [(value, InvalidOperation) for value in (
    None, {(0, 0): 1}, {(1, 1): -1}, {(8, 0): 1}, {(1, 1): True}, {(1, 1): None}, {(True, 1): 1}, {"1.1": 1}, {1: 1},
    {(1, 1): 10 ** 60}, [((1, 1), 1)], {(1, 1, 1): 0}, ((1, 1), 1),
)]
NO_BOOKS = [(value, InvalidBook) for value in (None, PAIRS.reader, PAIRS.lines, "book", 2)]
NO_ROWS = [(value, InvalidRow) for value in (((0, 0),), [(1, 1)], None, "1.1", ((1, 1),) * 201)]
NO_DEEDS = [(value, InvalidOperation) for value in ("", "push", "Popl", None, ("popl",))]
NO_SCALES = [(value, InvalidNumber) for value in (0, -1, True, None, "1", 10 ** 60, (1,))]
NO_PRICES = [(value, InvalidNumber) for value in (True, None, "1", 10 ** 60, -(10 ** 60), ())]


def worth(potentials, row):
    return sum(potentials.get(form, 0) for form in row if form != (0, 0))


def price_by_hand(book, row, deed, potentials, scale=1):
    """The price of a deed in a right row, None if it cannot be done or breaks."""
    if not can_be_done(row, deed):
        return None
    new, touched = deed_done(book, row, deed)
    return None if new is None else scale * len(touched) + worth(potentials, new) - worth(potentials, row)


def some_potentials(rng, book):
    found = {form: rng.choice((0, 1, 1, 2, 3, 5)) for form in book.reader.forms if rng.random() < 0.7}
    return {form: number for form, number in found.items() if form != (0, 0) or number == 0}


def are_rings(book, parts):
    """Whether parts are those of a price paper, as [15.2] tells it, for triples of the right kinds."""
    touched, losses = 0, {}
    for many, deed, ring in parts:
        for (stand, form), (behind, _) in zip(ring, ring[1:] + ring[:1]):
            if stand not in Table(book, deed).stands or not ends_unbroken(book, deed, stand):
                return False
            if ("inner", form, behind) not in moves(book, deed, stand):
                return False
            raw = (form[0] + stand[1][0], form[1] + stand[1][1])
            new = book.machine.step(stand[2], "inner", raw)[0]
            touched += many * (stand[1] != (0, 0) or new != form)
            losses[form] = losses.get(form, 0) + many
            losses[new] = losses.get(new, 0) - many
    return touched > 0 and all(lost <= 0 for form, lost in losses.items() if form != (0, 0))


def ends_unbroken(book, deed, stand):
    known, waiting = {stand}, [stand]
    for at in waiting:
        if is_final(book, at) and at[2] != "":
            return True
        for _, _, other in moves(book, deed, at):
            if other not in known:
                known.add(other)
                waiting.append(other)
    return False


class Interface(unittest.TestCase):
    def test_functions_are_defined_here(self):
        for function in (potential_of, price_of, least_price, dear_row, price_paper, is_price_paper):
            self.assertEqual(function.__module__, "fingerbooks.decide.prices")


class Potentials(unittest.TestCase):
    def test_sums(self):
        rng = random.Random(71)
        for _ in range(100):
            potentials = {form: rng.randint(0, 9) for form in rng.sample(FORMS, 30)}
            potentials.pop((0, 0), None)
            row = tuple(rng.choice(FORMS) for _ in range(5)) + ((0, 1),)
            expected = sum(potentials.get(form, 0) for form in row if form != (0, 0))
            self.assertEqual(potential_of(potentials, row), expected)
            self.assertEqual(potential_of({**potentials, (0, 0): 0}, row), expected)

    def test_edges(self):
        self.assertEqual([potential_of(STEADY, ((3, 1), (0, 2))), potential_of(STEADY, ())], [2, 0])
        self.assertEqual(potential_of({}, ((1, 1),) * 200), 0)
        self.assertEqual(potential_of({(7, 7): 10 ** 60 - 1}, ((7, 7),) * 2), 2 * 10 ** 60 - 2)

    def test_errors(self):
        no_rows = [(value, InvalidRow) for value in (((0, 0),), [(1, 1)], None, "1.1", ((1, 1),) * 201, ((8, 1),))]
        check_first_error(self, potential_of, (STEADY, ((7, 7),)), (NO_POTENTIALS, no_rows))
        for value in odd_values():
            with self.subTest(value=value):
                if value != {}:
                    check_raises(self, InvalidOperation, lambda: potential_of(value, None))
                check_raises(self, InvalidOperation, lambda: potential_of([value], ()))
                if type(value) is not int or not 0 <= value < 10 ** 60:
                    check_raises(self, InvalidOperation, lambda: potential_of({(1, 2): value}, ()))


class Prices(unittest.TestCase):
    def test_by_hand(self):
        rng = random.Random(72)
        many = 0
        for book in some_books(73):
            for row, deed in itertools.product(rows_up_to(book, 12, 40), DEEDS):
                potentials, scale = some_potentials(rng, book), rng.randint(1, 3)
                expected = price_by_hand(book, row, deed, potentials, scale)
                if expected is not None:
                    self.assertEqual(price_of(book, row, deed, potentials, scale=scale), expected)
                    many += 1
                elif can_be_done(row, deed):
                    check_raises(self, InvalidOperation, lambda: price_of(book, row, deed, potentials))
        self.assertGreater(many, 1000)

    def test_all_prices_pay_for_all_touched_levels(self):
        rng = random.Random(74)
        for book in (PAIRS, TIGHT, TRIPLES):
            potentials, row, sums, touched = some_potentials(rng, book), (), 0, 0
            for _ in range(300):
                deed = rng.choice(DEEDS)
                if can_be_done(row, deed):
                    sums += price_of(book, row, deed, potentials, scale=2)
                    new, levels = deed_done(book, row, deed)
                    row, touched = new, touched + len(levels)
                    self.assertEqual(sums - 2 * touched, potential_of(potentials, row))
                    self.assertLessEqual(2 * touched, sums)

    def test_of_the_document(self):
        self.assertEqual(price_of(PAIRS, ((3, 1),), "pushl", STEADY), 2)
        self.assertEqual(price_of(PAIRS, ((3, 3),), "pushl", STEADY), 2)
        self.assertEqual(price_of(PAIRS, ((2, 3),), "popl", STEADY), 2)
        self.assertEqual(price_of(PAIRS, ((3, 3),), "popl", STEADY), 0)
        self.assertEqual(price_of(PAIRS, (), "pushl", {}, scale=5), 5)

    def test_errors(self):
        def call(book, row, deed, potentials, scale):
            return price_of(book, row, deed, potentials, scale=scale)

        wrong = (NO_BOOKS[:3], NO_ROWS[:4], NO_DEEDS[:3], NO_POTENTIALS[:4], NO_SCALES[:4])
        check_first_error(self, call, (PAIRS, ((1, 1),), "popl", STEADY, 1), wrong)
        check_raises(self, EmptySequence, lambda: price_of(PAIRS, (), "popr", {}), "popr")
        check_raises(self, InvalidNumber, lambda: price_of(PAIRS, (), "popr", {}, scale=0), 0)
        check_raises(self, InvalidOperation, lambda: price_of(LESS, ((1, 1), (0, 1)), "popl", {}))
        check_raises(self, InvalidNumber, lambda: price_of(LESS, ((1, 1), (0, 1)), "popl", {}, scale=-1), -1)
        for value, _ in NO_ROWS + [(((4, 1),), None)]:
            check_raises(self, InvalidRow, lambda: price_of(PAIRS, value, "popl", {}))


class Greatest(unittest.TestCase):
    def test_compared_with_many_rows(self):
        rng = random.Random(75)
        kinds = {"none": 0, "same": 0, "more": 0}
        for book in some_books(76, 8):
            rows = rows_up_to(book, 13, 400)
            for deed in DEEDS:
                potentials, scale = some_potentials(rng, book), rng.choice((1, 1, 2, 5))
                found = least_price(book, deed, potentials, scale=scale)
                prices = [price_by_hand(book, row, deed, potentials, scale) for row in rows]
                prices = [price for price in prices if price is not None]
                if found is None:
                    kinds["none"] += 1
                    if prices:
                        # There is no greatest one, so there are dear rows.
                        row = dear_row(book, deed, potentials, 60, scale=scale)
                        self.assertGreater(price_by_hand(book, row, deed, potentials, scale), 60)
                    continue
                self.assertLessEqual(max(prices, default=found), found)
                kinds["same" if prices and max(prices) == found else "more"] += 1
                row = dear_row(book, deed, potentials, found - 1, scale=scale)
                self.assertEqual(price_by_hand(book, row, deed, potentials, scale), found)
                self.assertIsNone(dear_row(book, deed, potentials, found, scale=scale))
        self.assertGreater(kinds["none"], 20)
        self.assertGreater(kinds["same"], 20)

    def test_without_potentials_it_is_the_number_of_touched_levels(self):
        for book in some_books(77, 5):
            for deed in DEEDS:
                if all(stand[2] != "" for stand in Table(book, deed).finals) and Table(book, deed).finals:
                    most = most_touched(book, deed)
                    self.assertEqual(least_price(book, deed, {}), most)
                    self.assertEqual(least_price(book, deed, {(0, 0): 0}, scale=7), None if most is None else 7 * most)

    def test_of_the_document(self):
        self.assertEqual([least_price(PAIRS, deed, STEADY) for deed in DEEDS], [2, 2, 2, 2])
        self.assertIsNone(least_price(TIGHT, "pushl", {}))

    def test_deeds_that_are_done_in_no_row(self):
        self.assertEqual([least_price(EMPTY, deed, {(0, 1): 4}) for deed in DEEDS], [1, 5, None, None])
        self.assertEqual([dear_row(EMPTY, deed, {}, -(10 ** 59)) for deed in DEEDS], [(), (), None, None])
        # In FLAT a take breaks if there is nothing at its side; where it does not, the row is right or not.
        self.assertEqual([least_price(FLAT, deed, {}) for deed in DEEDS], [1, 1, 1, 1])
        one = Book.from_lines(
            "arity 2", "first s", "ends e", "read s 0.1 e", *[f"start {deed} m" for deed in DEEDS],
        )
        self.assertEqual([least_price(one, deed, {(0, 1): 3}) for deed in DEEDS], [1, 4, None, -2])
        self.assertIsNone(dear_row(one, "popl", {}, -5))
        self.assertEqual(dear_row(one, "popr", {(0, 1): 3}, -3), ((0, 1),))

    def test_errors(self):
        def call(book, deed, potentials, scale):
            return least_price(book, deed, potentials, scale=scale)

        check_first_error(
            self, call, (PAIRS, "popl", STEADY, 2), (NO_BOOKS, NO_DEEDS, NO_POTENTIALS, NO_SCALES),
        )
        kept = tables.MAX_TABLE
        try:
            tables.MAX_TABLE = 3
            check_raises(self, TooMany, lambda: least_price(PAIRS, "popl", {}), 3)
            check_raises(self, InvalidNumber, lambda: least_price(PAIRS, "popl", {}, scale=0), 0)
        finally:
            tables.MAX_TABLE = kept


class Dear(unittest.TestCase):
    def test_compared_with_all_rows_up_to_some_elements(self):
        rng = random.Random(78)
        kinds = {True: 0, False: 0}
        for book in some_books(79, 5) + [loose_book(rng, 2, 3, 120) for _ in range(4)]:
            rows = rows_up_to(book, 13, 400)
            for deed, price in itertools.product(DEEDS, (-2, 0, 1, 3, 6)):
                potentials, scale = some_potentials(rng, book), rng.choice((1, 1, 2))
                found = dear_row(book, deed, potentials, price, scale=scale)
                hand = {row: price_by_hand(book, row, deed, potentials, scale) for row in rows + [found or ()]}
                check_least(self, book, found, lambda row: hand[row] is not None and hand[row] > price, rows)
                kinds[found is None] += 1
        self.assertGreater(min(kinds.values()), 30)

    def test_far_in(self):
        # Without potentials the price is the number of touched levels.
        for book, deed in ((TIGHT, "pushl"), (PAIRS, "popr"), (TRIPLES, "pushr")):
            for many in (2, 10, 100):
                row = dear_row(book, deed, {}, many - 1)
                self.assertEqual(size(book.arity, row), least_length_for(book, deed, many))
                self.assertGreaterEqual(price_by_hand(book, row, deed, {}), many)
        row = dear_row(TIGHT, "pushl", {}, 197)
        self.assertEqual(price_by_hand(TIGHT, row, "pushl", {}), 198)

    def test_worth_as_great_as_can_be(self):
        most = 10 ** 60 - 1
        row = dear_row(TIGHT, "popl", {(2, 1): most, (2, 2): most - 1}, most, scale=3)
        self.assertGreater(price_of(TIGHT, row, "popl", {(2, 1): most, (2, 2): most - 1}, scale=3), most)
        self.assertEqual(dear_row(PAIRS, "pushl", {(1, 1): most}, -most), ())
        self.assertEqual(dear_row(PAIRS, "pushl", {}, 0, scale=most), ())

    def test_of_the_document(self):
        self.assertEqual([dear_row(PAIRS, "pushl", STEADY, 1), dear_row(PAIRS, "pushl", STEADY, 2)], [(), None])

    def test_errors(self):
        def call(book, deed, potentials, price, scale):
            return dear_row(book, deed, potentials, price, scale=scale)

        wrong = (NO_BOOKS[:3], NO_DEEDS[:3], NO_POTENTIALS[:4], NO_PRICES[:4], NO_SCALES[:4])
        check_first_error(self, call, (PAIRS, "popl", STEADY, 0, 2), wrong)
        for value, _ in NO_PRICES:
            check_raises(self, InvalidNumber, lambda: dear_row(PAIRS, "popl", {}, value), value)
        kept = tables.MAX_TABLE
        try:
            tables.MAX_TABLE = 3
            check_raises(self, TooMany, lambda: dear_row(PAIRS, "popl", {}, 4), 3)
            check_raises(self, InvalidNumber, lambda: dear_row(PAIRS, "popl", {}, 4, scale=0), 0)
        finally:
            tables.MAX_TABLE = kept


class Papers(unittest.TestCase):
    def test_papers_are_papers(self):
        forms = {"price": 0, "rings": 0}
        rng = random.Random(80)
        books = some_books(81, 12) + [loose_book(rng, 2, 3, 150) for _ in range(5)]
        for book in books:
            paper = price_paper(book)
            forms[paper[0]] += 1
            self.assertIs(is_price_paper(book, paper), True)
            self.assertIs(type(paper), tuple)
            if paper[0] == "rings":
                self.assertTrue(are_rings(book, paper[1]))
                self.assertTrue(all(0 < many < 10 ** 50 for many, _, _ in paper[1]))
                continue
            _, scale, potentials, most = paper
            self.assertEqual(list(potentials), sorted(potentials))
            self.assertTrue(all(abs(number) < 10 ** 50 for number in [scale, most] + list(potentials.values())))
            prices = [least_price(book, deed, potentials, scale=scale) for deed in DEEDS]
            self.assertEqual(max([price for price in prices if price is not None], default=0), most)
            for row, deed in itertools.product(rows_up_to(book, 12, 100), DEEDS):
                price = price_by_hand(book, row, deed, potentials, scale)
                self.assertTrue(price is None or price <= most)
        self.assertGreater(min(forms.values()), 8, forms)

    def test_of_the_document(self):
        self.assertEqual([price_paper(PAIRS)[0], price_paper(TIGHT)[0]], ["price", "rings"])
        self.assertIs(is_price_paper(PAIRS, ("price", 1, STEADY, 2)), True)
        self.assertIs(is_price_paper(PAIRS, ("price", 1, STEADY, 1)), False)

    def test_other_price_papers(self):
        for scale in (1, 2, 10 ** 50):
            potentials = {form: scale * number for form, number in STEADY.items()}
            for most in (2 * scale - 1, 2 * scale, 2 * scale + 1, 10 ** 59):
                value = ("price", scale, potentials, most)
                self.assertIs(is_price_paper(PAIRS, value), most >= 2 * scale)
        self.assertIs(is_price_paper(PAIRS, ("price", 1, {}, 10 ** 59)), False)
        self.assertIs(is_price_paper(TIGHT, ("price", 1, FOR_PUTS, 10 ** 59)), False)
        # Most can be below 0 where each deed breaks that would have a greater price.
        self.assertIs(is_price_paper(FLAT, ("price", 1, {}, 1)), True)
        self.assertIs(is_price_paper(FLAT, ("price", 1, {}, 0)), False)

    def test_near_a_price_paper(self):
        value = ("price", 1, STEADY, 2)
        for wrong, _ in NO_SCALES:
            self.assertIs(is_price_paper(PAIRS, ("price", wrong, STEADY, 2)), False)
        for wrong, _ in NO_POTENTIALS:
            self.assertIs(is_price_paper(PAIRS, ("price", 1, wrong, 2)), False)
        for wrong, _ in NO_PRICES:
            self.assertIs(is_price_paper(PAIRS, ("price", 1, STEADY, wrong)), False)
        for wrong in (
            list(value), value[:3], value + (1,), ("Price",) + value[1:], ("rings",) + value[1:], ("rings", value),
            value[1:], ("price", 2) + value[2:], ("price", 1, {**STEADY, (3, 3): 0}, 2),
        ):
            with self.subTest(value=wrong):
                self.assertIs(is_price_paper(PAIRS, wrong), False)
        self.assertIs(is_price_paper(PAIRS, ("price", 1, {**STEADY, (0, 0): 0, (7, 7): 9}, 2)), True)

    def test_other_rings(self):
        _, parts = price_paper(TIGHT)
        for value in (
            parts[::-1], parts + parts, tuple((3 * many, deed, ring) for many, deed, ring in parts),
            tuple((many, deed, ring + ring) for many, deed, ring in parts),
        ):
            self.assertTrue(are_rings(TIGHT, value))
            self.assertIs(is_price_paper(TIGHT, ("rings", value)), True)
        ring = ((("o", (1, 0), "m", "o", True), (2, 1)), (("o", (1, 0), "m", "o", True), (2, 2)))
        back = ((("o", (-1, 0), "m", "o", True), (1, 2)), (("o", (-1, 0), "m", "o", True), (1, 1)))
        for value in (((1, "pushl", ring), (1, "popl", back)), ((2, "popl", back), (2, "pushl", ring[::-1]))):
            self.assertTrue(are_rings(TIGHT, value))
            self.assertIs(is_price_paper(TIGHT, ("rings", value)), True)
        for value in (
            ((1, "pushl", ring),), ((2, "pushl", ring), (1, "popl", back)), ((1, "pushl", ring), (1, "popr", back)),
            ((1, "pushl", ring[:1]), (1, "popl", back[:1])), ((1, "pushl", ring), (1, "popl", back[:1])),
        ):
            self.assertFalse(are_rings(TIGHT, value) and value)
            self.assertIs(is_price_paper(TIGHT, ("rings", value)), False)

    def test_rings_that_are_none(self):
        start, inner = ("s", (1, 0), "m", "s", True), ("o", (1, 0), "m", "o", True)
        ring, back = ((inner, (2, 2)),), ((("o", (-1, 0), "m", "o", True), (1, 2)),)
        rest = (1, "popl", back)
        self.assertIs(is_price_paper(TIGHT, ("rings", ((1, "pushl", ring), rest))), True)
        for part in (
            (1, "pushl", ()), (1, "pushl", ((inner, (1, 2)),)), (1, "pushl", ((inner, (3, 1)),)),
            (1, "pushl", ((start, (2, 2)),)), (1, "pushl", ((start, (2, 2)),) + ring), (1, "pushr", ring),
            (1, "pushl", ((inner, (2, 2)), (("o", (0, 0), "m", "o", True), (2, 2)))), (0, "pushl", ring),
            (True, "pushl", ring), (-1, "pushl", ring), (1, "push", ring), (1, "pushl", list(ring)), (1, "pushl"),
            [1, "pushl", ring], (1, "pushl", ring, 1), (1, "pushl", ((inner, (2, True)),)), (None, "pushl", ring),
            (1, "pushl", ((inner,),)), (1, "pushl", ([inner, (2, 2)],)), (1, "pushl", ((inner, [2, 2]),)),
            (1, "pushl", (("o", (1, 0), "m", "o", 1), (2, 2))), (1, "pushl", ((inner[:4] + (1,), (2, 2)),)),
            (1, "pushl", ((None, (2, 2)),)), (10 ** 60, "pushl", ring), ("1", "pushl", ring), None, (),
        ):
            with self.subTest(part=part):
                self.assertIs(is_price_paper(TIGHT, ("rings", (part, rest))), False)
        for value in ((), [(1, "pushl", ring), rest], None, ((1, "pushl", ring), rest, None), "rings", {1: 2}):
            self.assertIs(is_price_paper(TIGHT, ("rings", value)), False)
        untouched = ((("o", (0, 0), "m", "o", True), (1, 1)),)
        self.assertIs(is_price_paper(TIGHT, ("rings", ((1, "pushl", untouched),))), False)
        self.assertIs(is_price_paper(TIGHT, ("rings", ((5, "pushl", untouched), (1, "pushl", ring), rest))), True)

    def test_broken_stands_make_no_rings(self):
        # Behind an inner level of one form the deed has broken, or breaks further in: no ring of these counts.
        book = plain(PAIRS.reader).with_line("read s 0.1 o")
        broken = ("o", (0, 0), "", "", False)
        self.assertIn(broken, Table(book, "popl").stands)
        self.assertIs(is_price_paper(book, ("rings", ((1, "popl", ((broken, (1, 1)),)),))), False)
        self.assertEqual(price_paper(book)[0], "price")

    def test_at_random_rings_for_which_potentials_pay(self):
        # There are no rings beside a price paper, however they are counted.
        rng = random.Random(82)
        for book in (PAIRS, TRIPLES):
            loops = []
            for deed in DEEDS:
                for stand in Table(book, deed).stands:
                    loops += [(deed, ((stand, form),)) for _, form, other in moves(book, deed, stand) if other == stand]
            for _ in range(200):
                chosen = rng.sample(loops, rng.randint(1, 8))
                parts = tuple((rng.randint(1, 3), deed, ring) for deed, ring in chosen)
                self.assertIs(is_price_paper(book, ("rings", parts)), False)

    def test_books_for_which_puts_and_takes_are_paid_for_apart(self):
        for deed in ("pushl", "pushr"):
            self.assertIsNotNone(least_price(TIGHT, deed, FOR_PUTS))
            self.assertIsNone(least_price(TIGHT, deed, FOR_TAKES))
        for deed in ("popl", "popr"):
            self.assertIsNotNone(least_price(TIGHT, deed, FOR_TAKES))
            self.assertIsNone(least_price(TIGHT, deed, FOR_PUTS))

    def test_errors(self):
        check_first_error(self, price_paper, (PAIRS,), (NO_BOOKS,))
        check_first_error(self, is_price_paper, (PAIRS, None), (NO_BOOKS, []))
        for value in odd_values():
            with self.subTest(value=value):
                for shown in (value, ("rings", value), ("price", value), (value,), ("rings", (value,))):
                    self.assertIs(is_price_paper(PAIRS, shown), False)
        kept = tables.MAX_TABLE
        try:
            tables.MAX_TABLE = 3
            check_raises(self, TooMany, lambda: price_paper(PAIRS), 3)
            check_raises(self, TooMany, lambda: is_price_paper(PAIRS, None), 3)
        finally:
            tables.MAX_TABLE = kept


class Solving(unittest.TestCase):
    def test_demands_are_met_or_contradict_each_other(self):
        rng = random.Random(83)
        counts = {True: 0, False: 0}
        for _ in range(300):
            many = rng.randint(1, 5)
            asked = []
            demands = Demands(many)
            for _ in range(rng.randint(1, 9)):
                multiples = {name: rng.randint(-4, 5) for name in range(many) if rng.random() < 0.7}
                least = rng.randint(0, 4)
                asked.append((multiples, least))
                demands.demand(multiples, least)
                counts_told = demands.contradiction()
                if counts_told != ():
                    break
            counts[counts_told == ()] += 1
            if counts_told == ():
                denominator, numbers = demands.solution()
                self.assertTrue(denominator > 0 and min(numbers) >= 0)
                for multiples, least in asked:
                    found = sum(multiple * numbers[name] for name, multiple in multiples.items())
                    self.assertGreaterEqual(found, least * denominator)
                continue
            self.assertTrue(min(counts_told) >= 0 and len(counts_told) == len(asked))
            self.assertGreater(sum(count * least for count, (_, least) in zip(counts_told, asked)), 0)
            for name in range(many):
                found = sum(count * multiples.get(name, 0) for count, (multiples, _) in zip(counts_told, asked))
                self.assertLessEqual(found, 0)
        self.assertGreater(min(counts.values()), 50)


class Unchanged(unittest.TestCase):
    def test_potentials_are_not_changed_and_not_kept(self):
        potentials = dict(STEADY)
        for deed in DEEDS:
            least_price(PAIRS, deed, potentials)
            dear_row(PAIRS, deed, potentials, 1)
            price_of(PAIRS, ((1, 1),), deed, potentials)
        is_price_paper(PAIRS, ("price", 1, potentials, 2))
        self.assertEqual(potentials, STEADY)
        first = price_paper(PAIRS)
        first[2].clear()
        self.assertNotEqual(price_paper(PAIRS)[2], {})

    def test_the_order_of_a_dict_does_not_matter(self):
        other = {form: STEADY[form] for form in reversed(list(STEADY))}
        self.assertEqual(dear_row(PAIRS, "popl", other, 1), dear_row(PAIRS, "popl", STEADY, 1))
        self.assertIs(is_price_paper(PAIRS, ("price", 1, other, 2)), True)


class Mirrors(unittest.TestCase):
    def test_mirrored_books_and_books_with_other_names(self):
        other = {"pushl": "pushr", "pushr": "pushl", "popl": "popr", "popr": "popl"}
        rng = random.Random(84)
        for book in some_books(85, 4):
            states = {state: "x" + state for state in book.reader.states}
            renamed = book.renamed(states, {note: "y" + note for note in book.notes})
            self.assertEqual(price_paper(book.mirrored())[0], price_paper(book)[0])
            self.assertEqual(price_paper(renamed)[0], price_paper(book)[0])
            potentials = some_potentials(rng, book)
            turned = {form[::-1]: number for form, number in potentials.items()}
            for deed in DEEDS:
                found = least_price(book, deed, potentials)
                self.assertEqual(least_price(book.mirrored(), other[deed], turned), found)
                self.assertEqual(least_price(renamed, deed, potentials), found)


if __name__ == "__main__":
    unittest.main()
