"""Potentials with which no ring of a deed has a price above 0, or rings that no potentials can pay for."""

from math import gcd

from fingerbooks.decide.links import whole_links
from fingerbooks.decide.solving import Demands
from fingerbooks.decide.weights import heaviest


def change_of(potentials, old, new):
    """By how much the potential changes if a level with an old form gets a new one."""
    return worth_of(potentials, new) - worth_of(potentials, old)


def worth_of(potentials, form):
    """The potential of a form."""
    return 0 if form == (0, 0) else potentials.get(form, 0)


def balanced(tables):
    """The triple (scale, potentials, rings) for the tables of a book: there are rings, or all rings can be paid for.

    A ring is a triple of how many times it is counted, the number of its table, and the list of its links.
    """
    links = [(number, link) for number, table in enumerate(tables) for link in _links_in_rings(table)]
    forms = _forms_of(links)
    demands = Demands(len(forms))
    rings = []
    scale, potentials = 1, {}
    found = _dear_rings(links, scale, potentials)
    while found != []:
        for ring in found:
            rings.append(ring)
            demands.demand(_losses(ring, forms), len([link for _, link in ring if link[4]]))
        counts = demands.contradiction()
        if counts != ():
            return scale, {}, _counted(rings, counts)
        scale, potentials = _in_least_terms(forms, demands)
        found = _dear_rings(links, scale, potentials)
    return scale, potentials, []


def _links_in_rings(table):
    """The links by which inner levels are read without breaking, as far as they can matter for a ring."""
    found = {}
    for link in whole_links(table):
        ahead, where, form, new, is_touched, behind = link
        if where == "inner":
            # Levels that are not touched are all alike.
            found.setdefault((ahead, behind, form if is_touched else (), new if is_touched else ()), link)
    return list(found.values())


def _forms_of(links):
    """A dict from the forms that levels get or lose to their numbers."""
    forms = sorted(set([form for _, link in links if link[4] for form in link[2:4] if form != (0, 0)]))
    return {form: number for number, form in enumerate(forms)}


def _dear_rings(links, scale, potentials):
    """Rings with a price above 0, as lists of pairs of the number of a table and a link; none if there are none."""
    steps = {}
    for number, link in links:
        ahead, _, form, new, is_touched, behind = link
        weight = scale * int(is_touched) + change_of(potentials, form, new)
        steps.setdefault((number, ahead), []).append((weight, (number, behind), link))
    rings = heaviest(steps, list(steps))[1]
    return [[(node[0], link) for node, link in ring] for ring in rings]


def _losses(ring, forms):
    """How often each form comes as an old one, less how often as a new one, by the numbers of the forms."""
    losses = {}
    for _, link in ring:
        if link[4]:
            for form, many in ((link[2], 1), (link[3], -1)):
                if form != (0, 0):
                    losses[forms[form]] = losses.get(forms[form], 0) + many
    return losses


def _counted(rings, counts):
    """The rings that are counted, with as small numbers as possible."""
    common = 0
    for count in counts:
        common = gcd(common, count)
    return [
        (count // common, ring[0][0], [link for _, link in ring]) for ring, count in zip(rings, counts) if count > 0
    ]


def _in_least_terms(forms, demands):
    """A scale and potentials that meet the demands, with as small numbers as possible."""
    scale, numbers = demands.solution()
    common = scale
    for number in numbers:
        common = gcd(common, number)
    potentials = {form: numbers[at] // common for form, at in forms.items() if numbers[at] > 0}
    return scale // common, potentials
