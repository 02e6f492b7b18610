"""Least numbers that meet demands, without any loss."""

# So many exchanges are chosen for what they bring; then such that no choice comes again, as this comes to an end.
_MANY_EXCHANGES = 500


class Demands:
    """Numbers of at least 0, with as small a sum as possible, and demands that sums of multiples of them be great.

    Some of the numbers and of what they have in excess of demands are basic: they are sums of multiples of the others,
    which are 0. All multiples are integers over one denominator. The numbers have the names 0, 1 and so on; behind them
    come the names of what is in excess of the demands, in their order.
    """

    def __init__(self, many):
        self._many = many
        self._denominator = 1
        # A row tells a basic number: what it is if the others are 0, and their multiples.
        self._basics = []
        self._rows = []
        self._others = list(range(many))
        self._sum = [0] + [1] * many
        self._demanded = 0

    def demand(self, multiples, least):
        """Demand that the sum of these multiples, a dict from names of numbers, be at least so great."""
        row = [-least * self._denominator] + [multiples.get(name, 0) * self._denominator for name in self._others]
        for name, basic in zip(self._basics, self._rows):
            multiple = multiples.get(name, 0)
            if multiple != 0:
                row = [old + multiple * more for old, more in zip(row, basic)]
        self._basics.append(self._many + self._demanded)
        self._rows.append(row)
        self._demanded += 1

    def contradiction(self):
        """Meet all demands, and return (); or how many times demands must be counted that cannot be met together.

        Then the sum of what is demanded is above 0, and no number has a multiple above 0 in the sum of the others.
        """
        exchanges = 0
        while True:
            at = self._unmet(exchanges < _MANY_EXCHANGES)
            if at is None:
                return ()
            column = self._helping(at)
            if column is None:
                return self._counts(at)
            self._exchange(at, column)
            exchanges += 1

    def _unmet(self, is_least):
        """Where a basic number is below 0: the least number, or the one with the least name; None if there is none."""
        below = [(self._rows[at][0] if is_least else 0, name, at) for at, name in enumerate(self._basics)
                 if self._rows[at][0] < 0]
        return min(below)[2] if below != [] else None

    def _helping(self, at):
        """The column of a number that makes a basic one greater, and costs least for this; None if there is none."""
        # Of several ones that with the least name is taken.
        row = self._rows[at]
        best = None
        for name, column in sorted([(name, column) for column, name in enumerate(self._others, start=1)]):
            if row[column] > 0 and (best is None or self._sum[column] * row[best] < self._sum[best] * row[column]):
                best = column
        return best

    def _counts(self, at):
        """How many times each demand is counted, so that a basic number would have to be at least 0 and is not."""
        counts = [0] * self._demanded
        for multiple, name in zip(self._rows[at][1:], self._others):
            if name >= self._many:
                counts[name - self._many] = -multiple
        if self._basics[at] >= self._many:
            counts[self._basics[at] - self._many] = self._denominator
        return tuple(counts)

    def _exchange(self, at, column):
        """Make the number of a column basic in the place of the one of a row."""
        row = self._rows[at]
        rows = [self._without(other, row, column) for other in self._rows]
        rows[at] = [-multiple for multiple in row]
        rows[at][column] = self._denominator
        self._sum = self._without(self._sum, row, column)
        self._rows = rows
        self._denominator = row[column]
        self._basics[at], self._others[column - 1] = self._others[column - 1], self._basics[at]

    def _without(self, other, row, column):
        """What another row tells if the number of a column is told by those of a row."""
        taken = other[column]
        # All multiples are determinants over the denominator, so nothing is lost here.
        found = [(old * row[column] - taken * more) // self._denominator for old, more in zip(other, row)]
        found[column] = taken
        return found

    def solution(self):
        """The denominator, and a list of the numbers times this."""
        found = [0] * self._many
        for name, row in zip(self._basics, self._rows):
            if name < self._many:
                found[name] = row[0]
        return self._denominator, found
