"""Ways of greatest weight along links, and the rings that let weights grow without an end."""


def heaviest(links, begun):
    """The greatest weights of ways to all nodes, as a dict, and a list of rings of links of a weight above 0.

    Links are a dict from nodes to triples of a weight, the next node, and anything that names the link. A way begins at
    any node of begun, a list. A ring is a list of pairs of a node and the name of the link from there; if there is one,
    weights have no end, and those that are told are not the greatest ones.
    """
    weights = {node: 0 for node in begun}
    steps = {}
    rings = []
    layer = list(begun)
    while layer != [] and rings == []:
        layer = _raised(links, weights, steps, layer)
        rings = _rings_of(steps)
    return weights, rings


def _raised(links, weights, steps, layer):
    """The nodes whose weights rise by links from a layer; the weights, and the steps to these nodes, are noted."""
    risen = {}
    for node in list(layer):
        for weight, other, name in links.get(node, ()):
            total = weights[node] + weight
            if other not in weights or total > weights[other]:
                weights[other] = total
                steps[other] = (node, name)
                risen[other] = True
    return list(risen)


def _rings_of(steps):
    """The rings along steps, of which one at most leads to each node."""
    # A step is noted only where it makes a weight greater than it was, so all rings of steps have a weight above 0.
    marks = {}
    found = []
    for begun in list(steps):
        node = begun
        while node in steps and node not in marks:
            marks[node] = begun
            node = steps[node][0]
        if marks[begun] == begun and marks.get(node) == begun:
            found.append(_ring_to(steps, node))
    return found


def _ring_to(steps, node):
    """The ring of steps that leads from a node to itself."""
    ring = [steps[node]]
    while ring[-1][0] != node:
        ring.append(steps[ring[-1][0]])
    return ring[::-1]
