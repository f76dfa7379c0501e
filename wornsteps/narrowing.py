"""Narrower marks that fit the same crowds, marks that are needless, and marks in two parts."""

from wornsteps.checks import FREE, check_count, check_thing, is_within
from wornsteps.errors import NotBetween, NothingFits
from wornsteps.marks import right_marks
from wornsteps.network import Network
from wornsteps.scores import range_of, settled_whole


def narrower(marks):
    """The Marks with the least and the greatest wear of each thing as its mark, which fit the same crowds."""
    network, arcs = settled_whole(marks)
    return right_marks(marks.stair, {thing: network.range_at(arc) for thing, arc in arcs.items()})


def is_tight(marks):
    """Whether each mark is the least and the greatest wear of its thing."""
    network, arcs = settled_whole(marks)
    told = marks.told()
    for thing, arc in arcs.items():
        if network.range_at(arc) != told.get(thing, FREE):
            return False
    return True


def is_needless(marks, thing):
    """Whether the same crowds fit without a mark at the thing."""
    check_thing(marks.stair, thing)
    told = {**marks.told(), thing: FREE}
    network = Network(marks.stair, told, told)
    if network.settle() is not None:
        raise NothingFits()
    least, greatest = network.range_at(network.labels.index(thing))
    low, high = marks[thing]
    # All wears between these two are met without the mark; so some crowd fits if one of them lies within it.
    if greatest is not None and greatest < low or high is not None and least > high:
        raise NothingFits()
    return is_within((least, greatest), (low, high))


def parts(marks, thing, number):
    """The Marks with the high of the thing lowered to the number, and those with the low raised to one more."""
    check_thing(marks.stair, thing)
    check_count(number)
    least, greatest = range_of(marks, thing)
    if number < least or greatest is not None and number >= greatest:
        raise NotBetween(least, None if greatest is None else greatest - 1)
    low, high = marks[thing]
    lower = number if high is None else min(high, number)
    return marks.with_mark(thing, low, lower), marks.with_mark(thing, max(low, number + 1), high)
