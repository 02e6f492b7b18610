"""Ways along lines from one node to another: which there are, and which make rows of least length."""

from heapq import heappop, heappush


def reached(starts, links):
    """The nodes to which links lead from some nodes, these included, as a dict of True."""
    found = {node: True for node in starts}
    waiting = list(starts)
    while waiting:
        node = waiting.pop()
        for other in links.get(node, ()):
            if other not in found:
                found[other] = True
                waiting.append(other)
    return found


def shortest_ways(arity, lines, goals):
    """For each node with a way to a goal: the least length of what is read on it, and the step with which it begins.

    A line is a triple of a node, the form that is read there, and the next node; such a step is a pair of the last two,
    () at a goal. Nodes are compared, so all of them are of one kind.
    """
    into = {}
    for node, form, other in lines:
        into.setdefault(other, []).append((node, form))
    ways = {}
    # What follows a form counts arity times ahead of it, so no step makes a way shorter: nodes can be settled in the
    # order of their lengths.
    queue = [(0, goal, ()) for goal in sorted(goals)]
    while queue:
        length, node, step = heappop(queue)
        if node in ways:
            continue
        ways[node] = (length, step)
        for ahead, form in into.get(node, ()):
            if ahead not in ways:
                heappush(queue, (sum(form) + arity * length, ahead, (form, node)))
    return ways


def forms_along(ways, node):
    """The forms that are read on a way of least length from a node."""
    forms = []
    step = ways[node][1]
    while step != ():
        forms.append(step[0])
        step = ways[step[1]][1]
    return tuple(forms)
