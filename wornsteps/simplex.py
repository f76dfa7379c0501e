"""Shares within bounds, found by steps from one corner of what is possible to the next.

There are columns, each with a share of at least 0, and rows, each with the sum of the shares of some columns, which has
to lie within bounds. At each corner some of all these are led by the others, which stand at one of their bounds. The
sums are told by whole numbers over one bottom: each number of the table is a minor of the table at the beginning, so
the divisions leave no rest. Where several can be changed, the first one is, so that no corner is come to twice.
"""


def put_in(line, chosen, k, bottom):
    """A line in which the number of column k is told by a chosen line."""
    sign = 1 if chosen[k] > 0 else -1
    pivot = chosen[k] * sign
    factor = line[k] * sign
    if factor == 0:
        return [x * pivot // bottom for x in line]
    fresh = [(x * pivot - factor * y) // bottom for x, y in zip(line, chosen)]
    fresh[k] = factor
    return fresh


class Table:
    """Columns and rows; column k is number k, row r is number r behind the columns. It changes from step to step."""

    def __init__(self, columns, bounds):
        self.many = len(columns)
        self.lines = [[column >> r & 1 for column in columns] for r in range(len(bounds))]
        self.bottom = 1
        self.leading = list(range(self.many))
        self.led = [self.many + r for r in range(len(bounds))]
        self.bounds = [(0, None)] * self.many + bounds
        self.standing = [0] * self.many

    def totals(self):
        """The list of what each led number is, times the bottom."""
        held = [(k, standing) for k, standing in enumerate(self.standing) if standing]
        return [sum([line[k] * standing for k, standing in held]) for line in self.lines]

    def swap(self, r, k, standing):
        """Let the number that line r tells lead, standing at a bound, and the one of column k be led."""
        chosen = self.lines[r]
        sign = 1 if chosen[k] > 0 else -1
        pivot = chosen[k] * sign
        begin = [-x * sign for x in chosen]
        begin[k] = self.bottom * sign
        self.lines = [begin if at == r else put_in(line, chosen, k, self.bottom) for at, line in enumerate(self.lines)]
        self.bottom = pivot
        came = self.leading[k]
        self.leading[k] = self.led[r]
        self.led[r] = came
        self.standing[k] = standing

    def can_rise(self, k):
        """Whether what column k tells stands below its upper bound."""
        high = self.bounds[self.leading[k]][1]
        return high is None or self.standing[k] < high

    def can_fall(self, k):
        """Whether what column k tells stands above its lower bound."""
        return self.standing[k] > self.bounds[self.leading[k]][0]

    def beyond(self):
        """The line of the first led number that is beyond a bound, whether it is too low, and the bound; or None."""
        found = None
        for r, total in enumerate(self.totals()):
            low, high = self.bounds[self.led[r]]
            is_low = total < low * self.bottom
            if is_low or high is not None and total > high * self.bottom:
                if found is None or self.led[r] < self.led[found[0]]:
                    found = (r, is_low, low if is_low else high)
        return found

    def helper(self, line, is_low):
        """The column of the first number that can be changed so that a sum rises, if it is too low, or falls."""
        best = None
        for k, x in enumerate(line):
            if x and (best is None or self.leading[k] < self.leading[best]):
                if (x > 0) == is_low:
                    can = self.can_rise(k)
                else:
                    can = self.can_fall(k)
                if can:
                    best = k
        return best

    def settle(self):
        """Go on until all numbers are within their bounds: None, or the dict from rows to multipliers that deny it."""
        found = self.beyond()
        while found is not None:
            r, is_low, bound = found
            k = self.helper(self.lines[r], is_low)
            if k is None:
                return self.denial(r, is_low)
            self.swap(r, k, bound)
            found = self.beyond()
        return None

    def denial(self, r, is_low):
        """The dict from rows to multipliers that show that a led number can not come to its bound."""
        sign = 1 if is_low else -1
        found = self.multipliers([x * sign for x in self.lines[r]])
        if self.led[r] >= self.many:
            found[self.led[r] - self.many] = -self.bottom * sign
        return found

    def multipliers(self, line):
        """The dict from the rows that lead to what a line has for them, where it is not 0."""
        return {number - self.many: x for number, x in zip(self.leading, line) if x and number >= self.many}

    def add_aim(self, scores):
        """Add a line that tells the sum of the shares of the columns, each times its score."""
        line = [self.bottom * scores[number] if number < self.many else 0 for number in self.leading]
        for number, told in zip(self.led, self.lines):
            if number < self.many and scores[number]:
                line = [x + scores[number] * y for x, y in zip(line, told)]
        self.lines.append(line)

    def drop_aim(self):
        """Take the line that add_aim added away."""
        self.lines.pop()

    def climb(self):
        """Go on until the aim is greatest, all numbers staying within their bounds; whether it comes to an end."""
        k = self.helper(self.lines[-1], True)
        while k is not None:
            if not self.change(k, self.lines[-1][k] > 0):
                return False
            k = self.helper(self.lines[-1], True)
        return True

    def change(self, k, rises):
        """Let what column k tells rise, or fall, until something comes to a bound; whether something does."""
        found = self.narrowest(k, rises)
        low, high = self.bounds[self.leading[k]]
        if high is not None and (found is None or (high - low) * found[1] <= found[0]):
            self.standing[k] = high if rises else low
            return True
        if found is None:
            return False
        self.swap(found[3], k, found[4])
        return True

    def narrowest(self, k, rises):
        """What comes to a bound first: a tuple (room, rate, number, line, bound); None if nothing does."""
        best = None
        for r, (number, total) in enumerate(zip(self.led, self.totals())):
            rate = self.lines[r][k] if rises else -self.lines[r][k]
            bound = self.bounds[number][1] if rate > 0 else self.bounds[number][0]
            if rate and bound is not None:
                room = abs(bound * self.bottom - total)
                rate = abs(rate)
                further = 0 if best is None else room * best[1] - best[0] * rate
                if best is None or further < 0 or further == 0 and number < best[2]:
                    best = (room, rate, number, r, bound)
        return best

    def shares(self):
        """The dict from the columns with a share above 0 to it, times the bottom."""
        return {number: total for number, total in zip(self.led, self.totals()) if number < self.many and total}
