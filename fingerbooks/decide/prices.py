"""Potentials, the prices of deeds with them, and papers that show whether deeds have a price."""

from fingerbooks.base.forms import check_row, is_form
from fingerbooks.base.words import is_count, is_integer
from fingerbooks.book.books import DEEDS, check_book, check_deed, is_deed
from fingerbooks.decide.dear import Prices, dearest_row
from fingerbooks.decide.links import numbers_of, start_number, whole_links
from fingerbooks.decide.rings import balanced, change_of, worth_of
from fingerbooks.decide.tables import Table
from fingerbooks.decide.weights import heaviest
from fingerbooks.deeds.rows import check_can_be_done, check_right_row, levels_touched
from fingerbooks.errors import InvalidNumber, InvalidOperation


def potential_of(potentials, row):
    """The potential of a row."""
    _check_potentials(potentials)
    check_row(row)
    return _sum_of(potentials, row)


def _sum_of(potentials, row):
    """The potential of a row of any number of levels."""
    return sum([worth_of(potentials, form) for form in row])


def _is_potentials(value):
    """Whether the value is a dict from forms to integers of at least 0, with none but 0 for (0, 0)."""
    if not isinstance(value, dict) or not all([is_form(form) for form in value]):
        return False
    return all([is_count(number) for number in value.values()]) and value.get((0, 0), 0) == 0


def _check_potentials(value):
    """Refuse a value that is no potentials."""
    if not _is_potentials(value):
        raise InvalidOperation("potentials are a dict from forms to integers of at least 0")


def _is_scale(value):
    """Whether the value is an integer of at least 1."""
    return is_count(value) and value > 0


def _check_scale(value):
    """Refuse a value that is no scale."""
    if not _is_scale(value):
        raise InvalidNumber(value)


def price_of(book, row, deed, potentials, *, scale=1):
    """The price of a deed in a right row."""
    check_right_row(book, row)
    check_deed(deed)
    _check_potentials(potentials)
    _check_scale(scale)
    check_can_be_done(row, deed)
    new = book.passage(row, deed)[0]
    if new is None:
        raise InvalidOperation("the deed breaks")
    return scale * len(levels_touched(book, row, deed)) + _sum_of(potentials, new) - _sum_of(potentials, row)


def least_price(book, deed, potentials, *, scale=1):
    """The greatest price of a deed in right rows in which it does not break, None if there is none."""
    check_book(book)
    check_deed(deed)
    _check_potentials(potentials)
    _check_scale(scale)
    prices = _greatest_prices(Table(book, deed), potentials, scale)
    return max(prices) if prices is not None and prices != [] else None


def _greatest_prices(table, potentials, scale):
    """The greatest prices with which a deed comes to final stands without breaking, None if they have no end."""
    steps = {}
    for ahead, _, _, price, behind in _priced_links(table, potentials, scale):
        steps.setdefault(ahead, []).append((price, behind, ()))
    weights, rings = heaviest(steps, [start_number(table)])
    if rings != []:
        return None
    numbers = numbers_of(table)
    return [weights[numbers[stand]] for stand in table.finals if stand[2] != ""]


def _priced_links(table, potentials, scale):
    """The links of a table without those to stands that must break, with the prices of the levels: five parts each."""
    return [
        (ahead, where, form, scale * int(is_touched) + change_of(potentials, form, new), behind)
        for ahead, where, form, new, is_touched, behind in whole_links(table)
    ]


def dear_row(book, deed, potentials, price, *, scale=1):
    """A right row of least length in which a deed does not break and has a price above another one, None if none."""
    check_book(book)
    check_deed(deed)
    _check_potentials(potentials)
    if not is_integer(price):
        raise InvalidNumber(price)
    _check_scale(scale)
    table = Table(book, deed)
    prices = _greatest_prices(table, potentials, scale)
    if prices is not None and max(prices, default=price) <= price:
        return None
    return dearest_row(book.arity, Prices(_priced_links(table, potentials, scale), start_number(table)), price)


def price_paper(book):
    """A price paper for a book."""
    check_book(book)
    tables = [Table(book, deed) for deed in DEEDS]
    scale, potentials, rings = balanced(tables)
    if rings != []:
        return "rings", tuple([(many, DEEDS[at], _ring_of(tables[at], links)) for many, at, links in rings])
    greatest = [price for table in tables for price in _greatest_prices(table, potentials, scale)]
    return "price", scale, potentials, max(greatest, default=0)


def _ring_of(table, links):
    """The pairs of a stand and the form that is read there, for links that make a ring."""
    return tuple([(table.stands[link[0]], link[2]) for link in links])


def is_price_paper(book, value):
    """Whether the value is a price paper for a book."""
    check_book(book)
    tables = {deed: Table(book, deed) for deed in DEEDS}
    if not isinstance(value, tuple) or value == ():
        return False
    if value[0] == "price" and len(value) == 4:
        return _shows_price(tables, value[1], value[2], value[3])
    return value[0] == "rings" and len(value) == 2 and _shows_rings(tables, value[1])


def _shows_price(tables, scale, potentials, most):
    """Whether no deed has a price above the greatest one with a scale and potentials, and these are such."""
    if not _is_scale(scale) or not _is_potentials(potentials) or not is_integer(most):
        return False
    for table in tables.values():
        prices = _greatest_prices(table, potentials, scale)
        if prices is None or max(prices, default=most) > most:
            return False
    return True


def _shows_rings(tables, parts):
    """Whether the value is the tuple of parts of a price paper that no potentials can pay for."""
    if not isinstance(parts, tuple) or parts == () or not all([_has_form_of_part(part) for part in parts]):
        return False
    inner = {deed: _inner_links(table) for deed, table in tables.items()}
    is_any_touched = False
    losses = {}
    for many, deed, ring in parts:
        links = _links_along(inner[deed], tables[deed], ring)
        if links is None:
            return False
        for _, _, form, new, is_touched, _ in links:
            is_any_touched = is_any_touched or is_touched
            losses[form] = losses.get(form, 0) + many
            losses[new] = losses.get(new, 0) - many
    return is_any_touched and all([lost <= 0 for form, lost in losses.items() if form != (0, 0)])


def _has_form_of_part(value):
    """Whether the value is a triple of an integer of at least 1, a deed, and a tuple of at least one pair."""
    if not isinstance(value, tuple) or len(value) != 3:
        return False
    many, deed, ring = value
    if not is_count(many) or many == 0 or not is_deed(deed) or not isinstance(ring, tuple) or ring == ():
        return False
    return all([isinstance(pair, tuple) and len(pair) == 2 for pair in ring])


def _inner_links(table):
    """The links of inner levels behind which a deed can end unbroken, by their stands and forms."""
    return {(table.stands[link[0]], link[2]): link for link in whole_links(table) if link[1] == "inner"}


def _links_along(inner, table, ring):
    """The links along the pairs of a ring of a table, None if they make none."""
    links = []
    for stand, form in ring:
        if stand not in table or not is_form(form):
            return None
        links.append(inner.get((stand, form)))
    if None in links or any([ahead[5] != link[0] for ahead, link in zip(links[-1:] + links[:-1], links)]):
        return None
    return links
