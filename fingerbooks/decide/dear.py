"""Rows of least length in which a deed has a high price."""

from fingerbooks.base.forms import MAX_LEVELS

# A level has at most seven bundles at each of its sides.
_MAX_BUNDLES = 14


class Prices:
    """What each level adds to the price of a deed, by the stands between which it is read.

    Links are tuples (stand, where, form, price, next stand); from each of these stands the deed can end unbroken.
    """

    def __init__(self, links, start):
        self.start = start
        # For each stand what follows at new levels: the price of the next one, and the stand behind it.
        self.onward_new = {ahead: (price, behind) for ahead, where, _, price, behind in links if where == "new"}
        # For each stand the inner levels behind which it stands: the stand ahead, the form, and the price.
        self.into = {}
        for (ahead, behind, _), (price, form) in _best_of([link for link in links if link[1] == "inner"]).items():
            self.into.setdefault(behind, []).append((ahead, form, price))
        # The last levels, each with the price of all new ones behind it.
        self.last_levels = [
            (ahead, form, price + self.worth_of_new(behind)) for ahead, where, form, price, behind in links
            if where == "last"
        ]

    def worth_of_new(self, stand):
        """The price of all new levels behind a stand."""
        total = 0
        while stand in self.onward_new:
            price, stand = self.onward_new[stand]
            total = total + price
        return total


def _best_of(links):
    """The greatest price, and a form that has it, for each pair of stands and number of bundles."""
    best = {}
    for ahead, _, form, price, behind in links:
        key = (ahead, behind, sum(form))
        if key not in best or price > best[key][0]:
            best[key] = (price, form)
    return best


def dearest_row(arity, prices, limit):
    """A right row of least length in which a deed has a price above a limit; None if none has at most 200 levels."""
    if prices.start in prices.onward_new and prices.worth_of_new(prices.start) > limit:
        return ()
    greatest = [{prices.start: 0}]
    best = None
    # A row with so many levels has at least as many elements as the weight of its last level.
    weight = 1
    while (best is None and len(greatest) <= MAX_LEVELS) or (best is not None and weight < best[0]):
        if _is_exceeded(prices, greatest[-1], limit):
            found = _shortest(arity, prices, greatest, limit)
            best = found if best is None or found[0] < best[0] else best
        greatest.append(_one_level_more(prices, greatest[-1]))
        weight = weight * arity
    return best[1] if best is not None else None


def _is_exceeded(prices, greatest, limit):
    """Whether there is a price above the limit, if one last level is read behind those that are told."""
    return any([greatest[ahead] + price > limit for ahead, _, price in prices.last_levels if ahead in greatest])


def _one_level_more(prices, greatest):
    """The greatest prices of all levels up to a stand, if one more is read than for those that are told."""
    found = {}
    for behind, ways in prices.into.items():
        sums = [greatest[ahead] + price for ahead, _, price in ways if ahead in greatest]
        if sums != []:
            found[behind] = max(sums)
    return found


def _shortest(arity, prices, greatest, limit):
    """The least length of a row above the limit with one level more than those to which greatest prices go; the row."""
    ends = [((ahead, sum(form)), (price, form, ())) for ahead, form, price in prices.last_levels]
    layers = [_kept(ends, greatest[-1], limit)]
    for outer in greatest[-2::-1]:
        further = []
        for (stand, length), (price, _, _) in layers[-1].items():
            for ahead, form, more in prices.into.get(stand, ()):
                further.append(((ahead, sum(form) + arity * length), (more + price, form, (stand, length))))
        layers.append(_kept(further, outer, limit))
    place = min([(length, stand) for stand, length in layers[-1]])
    return place[0], _row_from(layers, place[1], place[0])


def _kept(found, greatest, limit):
    """Those parts of rows, from a level inward, that can belong to a row of least length above the limit.

    Each has a place, a stand and a length, and tells its price, its first form, and the place of the part behind this.
    """
    kept = {}
    for place, part in found:
        if place[0] in greatest and greatest[place[0]] + part[0] > limit:
            if place not in kept or part[0] > kept[place][0]:
                kept[place] = part
    least = min([length for _, length in kept])
    # All levels further out have fewer elements than so many bundles of this level.
    return {place: part for place, part in kept.items() if place[1] < least + _MAX_BUNDLES}


def _row_from(layers, stand, length):
    """The row that begins at a place of the last layer."""
    forms = []
    place = (stand, length)
    for layer in layers[::-1]:
        _, form, place = layer[place]
        forms.append(form)
    return tuple(forms)
