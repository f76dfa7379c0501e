"""Two crowds that fit and wear a thing as often, with scores as far from one another as can be.

Each is led along a network of its own, the one at the greatest score, the other at the least one. Then the wears of the
thing are brought together, always where it costs less of the difference of the scores; what one more costs only rises.
"""

from wornsteps.network import Network, lower
from wornsteps.scores import costs_of, score_in


class Side:
    """A network in which feet are led at the greatest score, from where more or fewer can be led along one arc."""

    def __init__(self, network, score, height):
        self.network = network
        self.costs = costs_of(network, score)
        self.height = height
        self.most = score_in(network, score)
        self.first_room = list(network.room)
        self.first_height = list(height)
        self.edge = 0
        self.many = 0
        self.end = 0
        self.best = {}
        self.link = {}
        self.price = 0

    def begin(self, arc):
        """Lead feet at the greatest score, as at first, and shut the arc, so that what is led round it stays there."""
        network = self.network
        network.room = list(self.first_room)
        self.height = list(self.first_height)
        self.edge = 2 * arc
        self.many = network.through(arc)
        network.room[2 * arc] = 0
        network.room[2 * arc + 1] = 0

    def turn(self, forth):
        """Begin to lead more feet along the arc, forth, or fewer, back."""
        if not forth:
            self.edge += 1
        self.look()

    def look(self):
        """Find out how one more is led at the least cost, and this cost."""
        network = self.network
        start = network.fronts[self.edge]
        end = network.fronts[self.edge ^ 1]
        network.excess[end] = -1
        self.end, self.best, self.link = network.nearest(start, self.costs, self.height)
        network.excess[end] = 0
        self.price = self.best[end] + self.height[end] - self.height[start] + self.costs[self.edge]

    def go(self, most):
        """Lead up to so many as was found, and tell how many it were."""
        network = self.network
        start = network.fronts[self.edge]
        lower(self.height, self.best, self.best[self.end])
        network.excess[start] = most
        network.excess[self.end] = -most
        network.push(start, self.end, self.link)
        many = most - network.excess[start]
        network.excess[start] = 0
        network.excess[self.end] = 0
        self.many += -many if self.edge & 1 else many
        return many

    def come_to(self, price):
        """Change the heights so far that one more would cost so much, where it costs more."""
        lower(self.height, self.best, self.best[self.end] - self.price + price)

    def finish(self):
        """Open the arc again, with what goes along it."""
        arc = self.edge // 2
        self.network.room[2 * arc + 1] = self.many - self.network.bounds[arc][0]


def meet(one, other, arc):
    """Bring the wears of two sides at an arc together at the least cost; and the whole cost."""
    one.begin(arc)
    other.begin(arc)
    gap = other.many - one.many
    cost = 0
    if gap != 0:
        one.turn(gap > 0)
        other.turn(gap < 0)
        gap = abs(gap)
    while gap > 0:
        side, rest = (one, other) if one.price <= other.price else (other, one)
        many = side.go(gap)
        gap -= many
        cost += many * side.price
        if gap > 0:
            side.look()
        else:
            rest.come_to(side.price)
    one.finish()
    other.finish()
    return cost
