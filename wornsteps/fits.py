"""Crowds that fit marks, and clashes: prices that show that none does."""

from wornsteps.checks import are_prices_of, check_prices, check_way
from wornsteps.crowds import Crowd
from wornsteps.flows import ways_of_flow
from wornsteps.marks import worth_of
from wornsteps.network import Network
from wornsteps.ways import cheapest_way, greatest_total, total_on, turned


def price_of(stair, way, prices):
    """The price of the way."""
    check_way(stair, way)
    check_prices(stair, prices)
    return total_on(way, prices)


def cheapest(stair, prices):
    """The tuple (price, way) of the first way with the lowest price; None without a way."""
    check_prices(stair, prices)
    return cheapest_way(stair, prices)


def worth(marks, prices):
    """The worth of the prices by the marks; None if there is none."""
    check_prices(marks.stair, prices)
    return worth_of(marks.told(), prices)


def in_order(stair, table):
    """The dict with the things in order."""
    return {thing: table[thing] for thing in stair.things() if thing in table}


def crowd_of(stair, network):
    """The Crowd of what goes along the arcs of a network in which no node has too many or few."""
    return Crowd(stair, ways_of_flow(stair, network.flow()))


def does_fit(marks):
    """Whether some crowd fits the marks."""
    told = marks.told()
    return Network(marks.stair, told, told).settle() is None


def fitting(marks):
    """A Crowd that fits the marks; None if there is none."""
    told = marks.told()
    network = Network(marks.stair, told, told)
    return crowd_of(marks.stair, network) if network.settle() is None else None


def plain_clash(marks):
    """A clash with no other prices than 1 and -1; None if some crowd fits."""
    told = marks.told()
    network = Network(marks.stair, told, told)
    stuck = network.settle()
    return None if stuck is None else in_order(marks.stair, network.crossing(stuck))


def clash(marks):
    """A clash by the marks; None if some crowd fits."""
    return plain_clash(marks)


def is_clash(marks, value):
    """Whether any value is a clash by the marks."""
    if not are_prices_of(marks.stair, value):
        return False
    total = worth_of(marks.told(), value)
    if total is None or total >= 0:
        return False
    dearest = greatest_total(marks.stair, turned(value))
    return dearest is None or dearest <= 0
