"""Scores of the crowds that fit marks: the greatest and the least one, and what holds in all of them."""

from wornsteps.checks import Ready, are_prices_of, check_count, check_score, check_thing, is_number
from wornsteps.crowds import Crowd
from wornsteps.errors import Endless, InvalidCount, NotBetween, NothingFits
from wornsteps.fits import crowd_of, does_fit
from wornsteps.flows import ways_of_flow
from wornsteps.marks import worth_of
from wornsteps.network import Network
from wornsteps.ways import greatest_total, totals_on, turned


def settled(marks, apart):
    """A network in which feet are led as the marks let, with arcs of the steps that are told, or apart."""
    told = marks.told()
    network = Network(marks.stair, told, {**told, **apart})
    if network.settle() is not None:
        raise NothingFits()
    return network


def settled_whole(marks):
    """A network as settled, with an arc of each thing, and the dict from all things, in order, to their arcs."""
    network = settled(marks, {step: True for step in range(1, marks.stair.head)})
    arcs = {thing: arc for arc, thing in enumerate(network.labels)}
    return network, marks.stair.in_order(arcs)


def open_jumps(marks):
    """The sorted list of the jumps that are endless, as the steps at their ends are."""
    told = marks.told()
    shut = {thing: True for thing in told if told[thing][1] is not None}
    return [jump for jump in marks.stair.jumps()
            if jump not in shut and jump[0] not in shut and jump[1] not in shut]


def free_way(marks, score):
    """The first way that is free for the score; None if none is."""
    check_score(marks.stair, score)
    return first_free(marks, score)


def first_free(marks, score):
    """The first way that is free for a score of things of the stair; None if none is."""
    if marks["feet"][1] is not None:
        return None
    jumps = open_jumps(marks)
    most, _ = totals_on(jumps, marks.stair.head, score)
    total = score.get("feet", 0)
    if most[0] is None or total + most[0] <= 0:
        return None
    way = [0]
    # The jumps are sorted, so the first one from a place by which more than 0 can still be had is taken.
    for jump in jumps:
        i, j = jump
        if i == way[-1] and most[j] is not None:
            further = total + score.get(jump, 0) + score.get(j, 0)
            if further + most[j] > 0:
                way.append(j)
                total = further
    return tuple(way)


def costs_of(network, score):
    """The list of what each edge of a network costs, so that the greatest score is the least cost."""
    costs = []
    for thing in network.labels:
        costs.append(-score.get(thing, 0))
        costs.append(score.get(thing, 0))
    return costs


def led_best(stair, told, score):
    """A network in which feet are led as marks tell, at the greatest score, and the heights; None if nothing fits.

    No way is free for the score.
    """
    network = Network(stair, told, {**told, **score})
    height = network.settle_cheap(costs_of(network, score))
    return None if height is None else (network, height)


def settled_best(marks, score):
    """A network in which feet are led as the marks let, at the greatest score, and the heights of its nodes."""
    if free_way(marks, score) is not None:
        if does_fit(marks):
            raise Endless()
        raise NothingFits()
    found = led_best(marks.stair, marks.told(), score)
    if found is None:
        raise NothingFits()
    return found


def score_in(network, score):
    """The score of the crowds of what goes along the arcs of a network."""
    return sum([score[thing] * network.through(arc) for arc, thing in enumerate(network.labels) if thing in score])


def greatest(marks, score):
    """The greatest score of the crowds that fit."""
    network, _ = settled_best(marks, score)
    return score_in(network, score)


def least(marks, score):
    """The least score of the crowds that fit."""
    check_score(marks.stair, score)
    return -greatest(marks, turned(score))


def best_crowd(marks, score):
    """A Crowd that fits and has the greatest score."""
    network, _ = settled_best(marks, score)
    return crowd_of(marks.stair, network)


def best_prices(marks, score):
    """Prices such that no way has a score above its price, and whose worth is the greatest score."""
    network, height = settled_best(marks, score)
    return marks.stair.in_order(network.prices(score, height))


def are_prices(marks, score, most, value):
    """Whether any value is prices such that no way has a score above its price, with a worth of at most most."""
    check_score(marks.stair, score)
    if not is_number(most):
        raise InvalidCount(most)
    if not are_prices_of(marks.stair, value):
        return False
    total = worth_of(marks.told(), value)
    if total is None or total > most:
        return False
    above = greatest_total(marks.stair, difference(score, value))
    return above is None or above <= 0


def difference(one, other):
    """The dict from all keys of two dicts of numbers to what the one has more than the other."""
    more = {key: one[key] for key in one}
    for key in other:
        more[key] = more.get(key, 0) - other[key]
    return more


def range_of(marks, thing):
    """The tuple (least, greatest) wear of the thing in the crowds that fit; None is endless."""
    check_thing(marks.stair, thing)
    network = settled(marks, {thing: True})
    return network.range_at(network.labels.index(thing))


def crowd_with(marks, thing, number):
    """A Crowd that fits, in which the thing has this wear."""
    check_thing(marks.stair, thing)
    check_count(number)
    low, high = marks[thing]
    if number >= low and (high is None or number <= high):
        told = {**marks.told(), thing: (number, number)}
        network = Network(marks.stair, told, told)
        if network.settle() is None:
            return crowd_of(marks.stair, network)
    fewest, most = range_of(marks, thing)
    raise NotBetween(fewest, most)


def sure(marks):
    """The list of the things, in order, that are worn by each crowd that fits."""
    network, arcs = settled_whole(marks)
    found = []
    for thing, arc in arcs.items():
        network.shift(arc, False, network.endless)
        if network.through(arc) > 0:
            found.append(thing)
    return found


def idle(marks):
    """The list of the things, in order, that are worn by no crowd that fits."""
    network, arcs = settled_whole(marks)
    return [thing for thing in arcs if network.through(arcs[thing]) == 0 and not network.can_shift(arcs[thing], True)]


def is_fixed(network, arc):
    """Whether neither more nor fewer feet can be led round an arc."""
    return not network.can_shift(arc, True) and not network.can_shift(arc, False)


def known(marks):
    """The list of the things, in order, that each crowd that fits wears as often."""
    network, arcs = settled_whole(marks)
    return [thing for thing in arcs if is_fixed(network, arcs[thing])]


def only_crowd(marks):
    """The Crowd that fits, if it is the only one; None if there are more."""
    network = settled(marks, {})
    for arc, thing in enumerate(network.labels):
        if isinstance(thing, tuple) and not is_fixed(network, arc):
            return None
    ways = ways_of_flow(marks.stair, network.flow())
    for step in range(1, marks.stair.head):
        rows = [(way, way.index(step)) for way in ways if step in way]
        # Two of these ways are unlike both ahead of the step and behind it exactly if some are at either side.
        if len({way[:at] for way, at in rows}) > 1 and len({way[at:] for way, at in rows}) > 1:
            return None
    return Crowd(marks.stair, Ready(ways))
