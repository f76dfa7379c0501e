"""Crowds that fit marks, and clashes: prices that show that none does."""

from wornsteps.checks import Ready, are_prices_of, check_prices, check_way
from wornsteps.crowds import Crowd
from wornsteps.flows import ways_of_flow
from wornsteps.marks import worth_of
from wornsteps.network import Network
from wornsteps.ways import cheapest_way, greatest_total, total_on, turned


def price_of(stair, way, prices):
    """The price of the way."""
    check_way(stair, way)
    check_prices(stair, prices)
    return total_on(way, prices)


def cheapest(stair, prices):
    """The tuple (price, way) of the first way with the lowest price; None without a way."""
    check_prices(stair, prices)
    return cheapest_way(stair, prices)


def worth(marks, prices):
    """The worth of the prices by the marks; None if there is none."""
    check_prices(marks.stair, prices)
    return worth_of(marks.told(), prices)


def crowd_of(stair, network):
    """The Crowd of what goes along the arcs of a network in which no node has too many or few."""
    return Crowd(stair, Ready(ways_of_flow(stair, network.flow())))


def clash_by(stair, told):
    """A plain clash by a dict from things to marks; None if some crowd fits."""
    network = Network(stair, told, told)
    stuck = network.settle()
    return None if stuck is None else stair.in_order(network.crossing(stuck))


def does_fit_by(stair, told):
    """Whether some crowd fits a dict from things to marks."""
    return Network(stair, told, told).settle() is None


def fitting_by(stair, told):
    """A Crowd that fits a dict from things to marks; None if there is none."""
    network = Network(stair, told, told)
    return crowd_of(stair, network) if network.settle() is None else None


def is_clash_by(stair, told, value):
    """Whether any value is a clash by a dict from things to marks."""
    if not are_prices_of(stair, value):
        return False
    total = worth_of(told, value)
    if total is None or total >= 0:
        return False
    dearest = greatest_total(stair, turned(value))
    return dearest is None or dearest <= 0


def does_fit(marks):
    """Whether some crowd fits the marks."""
    return does_fit_by(marks.stair, marks.told())


def fitting(marks):
    """A Crowd that fits the marks; None if there is none."""
    return fitting_by(marks.stair, marks.told())


def plain_clash(marks):
    """A clash with no other prices than 1 and -1; None if some crowd fits."""
    return clash_by(marks.stair, marks.told())


def clash(marks):
    """A clash by the marks; None if some crowd fits."""
    return plain_clash(marks)


def is_clash(marks, value):
    """Whether any value is a clash by the marks."""
    return is_clash_by(marks.stair, marks.told(), value)
