"""The links between the stands of a table: what is read at a level, and what happens there.

Stands are told by their numbers, in the order of the table.
"""

from fingerbooks.decide.tables import first_stand, moves_from, result_at
from fingerbooks.read.ways import reached


def numbers_of(table):
    """A dict from the stands of a table to their numbers."""
    return {stand: number for number, stand in enumerate(table.stands)}


def start_number(table):
    """The number of the start of a table."""
    return numbers_of(table)[first_stand(table.book, table.kind)]


def links_of(table):
    """For each move between stands of a table: (stand, where, old form, new form, whether it is touched, next stand).

    The new form is None at the level at which the deed breaks, and behind it.
    """
    numbers = numbers_of(table)
    links = []
    for stand, number in numbers.items():
        for where, form, other in moves_from(table.book, table.kind, stand):
            if other in numbers:
                new = _new_form(table.book, stand, where, form)
                links.append((number, where, form, new, _is_touched(stand, form, new), numbers[other]))
    return links


def _new_form(book, stand, where, form):
    """The new form of a level that is read in a stand, None if there is none."""
    result = result_at(book, stand, "inner" if where == "inner" else "last", form)
    return None if result is None else result[0]


def _is_touched(stand, form, new):
    """Whether a level is touched that is read in a stand: it is not if the deed has broken ahead of it."""
    return stand[2] != "" and (stand[1] != (0, 0) or new != form)


def whole_links(table):
    """Those links behind which the deed can come to a final stand without breaking."""
    links = links_of(table)
    numbers = numbers_of(table)
    back = {}
    for link in links:
        back.setdefault(link[5], []).append(link[0])
    whole = reached([numbers[stand] for stand in table.finals if stand[2] != ""], back)
    return [link for link in links if link[5] in whole]
