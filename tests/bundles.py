"""Deeds on rows of real bundles, done as [0.11] to [0.14] tell, without any thought of the order of the elements."""

SIDES = ("left", "right")


def filled(arity, row, content):
    """The levels of a row, each the pair of the lists of its bundles; a bundle is an element, or a list of bundles."""
    rest = list(content)
    lefts = [[_bundle(arity, level, rest) for _ in range(left)] for level, (left, _) in enumerate(row)]
    rights = []
    for level in reversed(range(len(row))):
        rights.insert(0, [_bundle(arity, level, rest) for _ in range(row[level][1])])
    assert rest == []
    return list(zip(lefts, rights))


def _bundle(arity, height, rest):
    if height == 0:
        return rest.pop(0)
    return [_bundle(arity, height - 1, rest) for _ in range(arity)]


def flat(bundle):
    """The elements of a bundle, in order."""
    if not isinstance(bundle, list):
        return [bundle]
    return [element for part in bundle for element in flat(part)]


def places(levels):
    """The element at each place of the levels."""
    found = {}
    for level, sides in enumerate(levels):
        for side, bundles in zip(SIDES, sides):
            for index, bundle in enumerate(bundles):
                for path, element in paths(bundle):
                    found[(level, side, index, path)] = element
    return found


def paths(bundle):
    """The pairs of a path in a bundle and the element there."""
    if not isinstance(bundle, list):
        return [((), bundle)]
    return [((at,) + path, element) for at, part in enumerate(bundle) for path, element in paths(part)]


def order(levels):
    """The elements in their order."""
    lefts = [flat(bundle) for left, _ in levels for bundle in left]
    rights = [flat(bundle) for _, right in reversed(levels) for bundle in right]
    return [element for part in lefts + rights for element in part]


def deed_done(book, levels, deed, element):
    """The levels behind a deed, and what was taken; None if the deed breaks."""
    put = {"pushl": ([element], []), "pushr": ([], [element])}.get(deed, ([], []))
    take = {"popl": (1, 0), "popr": (0, 1)}.get(deed, (0, 0))
    new = []
    taken = _go_in(book, book.starts[deed], put, take, [(list(left), list(right)) for left, right in levels], new)
    if taken is None:
        return None
    while new and new[-1] == ([], []):
        new.pop()
    return new, taken[0] + taken[1]


def _go_in(book, note, put, take, levels, new):
    """What is taken at the two sides of the first one of some levels, which are put behind the new ones."""
    if not levels and put == ([], []) and take == (0, 0):
        return [], []
    left, right = levels[0] if levels else ([], [])
    raw = tuple(len(side) + len(bundles) - many for side, bundles, many in zip((left, right), put, take))
    last = len(levels) <= 1
    result = book.machine.step(note, "last" if last else "inner", raw)
    if result is None:
        return None
    form, passed, after = result
    left, right = put[0] + left, right + put[1]
    arity = book.arity
    at = len(new)
    new.append(None)
    if last:
        row = left + right
        taken = row[:take[0]], row[len(row) - take[1]:]
        row = row[take[0]:len(row) - take[1]]
        assert len(row) == sum(raw)
        inward = row[form[0]:form[0] + arity * sum(passed)]
        new[at] = row[:form[0]], row[form[0] + arity * sum(passed):]
        bundles = _bundled(arity, inward)
        if _go_in(book, after, (bundles[:passed[0]], bundles[passed[0]:]), (0, 0), [], new) is None:
            return None
        return taken
    inward = [], []
    if passed[0] > 0:
        left, many = left[:len(left) - arity * passed[0]], left[len(left) - arity * passed[0]:]
        inward = _bundled(arity, many), inward[1]
    if passed[1] > 0:
        many, right = right[:arity * passed[1]], right[arity * passed[1]:]
        inward = inward[0], _bundled(arity, many)
    fetched = _go_in(book, after, inward, (max(0, -passed[0]), max(0, -passed[1])), levels[1:], new)
    if fetched is None:
        return None
    left = left + [part for bundle in fetched[0] for part in bundle]
    right = [part for bundle in fetched[1] for part in bundle] + right
    taken = left[:take[0]], right[len(right) - take[1]:]
    new[at] = left[take[0]:], right[:len(right) - take[1]]
    return taken


def _bundled(arity, bundles):
    return [bundles[at:at + arity] for at in range(0, len(bundles), arity)]
