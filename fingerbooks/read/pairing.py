"""Two readers that read the same row."""


def lines_of_both(one, other):
    """The lines between pairs of states of two readers that read the same forms: triples (pair, form, next pair).

    A state is the empty string where the lines of its reader do not lead along the forms. The pairs are all to which
    the first states lead, as long as one of the readers goes on.
    """
    forms = sorted(set(one.forms + other.forms))
    start = (one.first, other.first)
    lines = []
    known = {start: True, ("", ""): True}
    waiting = [start]
    while waiting:
        pair = waiting.pop()
        for form in forms:
            after = (one.next_state(pair[0], form), other.next_state(pair[1], form))
            if after != ("", ""):
                lines.append((pair, form, after))
            if after not in known:
                known[after] = True
                waiting.append(after)
    return lines
