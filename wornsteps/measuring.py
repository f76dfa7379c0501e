"""What follows if a thing is measured: the marks behind it, and by how much a score can still be unknown then."""

from wornsteps.checks import are_prices_of, check_count, check_prices, check_score, check_thing
from wornsteps.errors import Endless, NotBetween, NothingFits
from wornsteps.fits import crowd_of, does_fit, does_fit_by
from wornsteps.marks import worth_of
from wornsteps.scores import difference, first_free, led_best, open_jumps, range_of, score_in
from wornsteps.sides import Side, meet
from wornsteps.ways import greatest_total, things_on, total_on, totals_on, turned


def measured(marks, thing, wear):
    """The Marks in which the thing is worn just so often, which it can be."""
    check_thing(marks.stair, thing)
    check_count(wear)
    low, high = marks[thing]
    if low <= wear and (high is None or wear <= high) and does_fit_by(
            marks.stair, {**marks.told(), thing: (wear, wear)}):
        return marks.with_mark(thing, wear, wear)
    least, greatest = range_of(marks, thing)
    raise NotBetween(least, greatest)


def extremes(stair, jumps, score):
    """The tuple (least, greatest) score of the ways that make some jumps only, which are sorted; None without a way."""
    most, _ = totals_on(jumps, stair.head, score)
    if most[0] is None:
        return None
    fewest, _ = totals_on(jumps, stair.head, turned(score))
    return score.get("feet", 0) - fewest[0], score.get("feet", 0) + most[0]


def jumps_beside(jumps, thing):
    """Those of some jumps that ways can make which do not pass the thing."""
    if isinstance(thing, str):
        return []
    if isinstance(thing, tuple):
        return [jump for jump in jumps if jump != thing]
    return [jump for jump in jumps if jump[1] != thing]


def jumps_through(jumps, thing):
    """Those of some jumps that ways can make which pass the thing."""
    if isinstance(thing, str):
        return jumps
    if isinstance(thing, tuple):
        return [jump for jump in jumps if jump == thing or jump[1] <= thing[0] or jump[0] >= thing[1]]
    return [jump for jump in jumps if jump[1] <= thing or jump[0] >= thing]


def scored_way(marks, score):
    """A way of which all things are endless, with another score than 0; None if there is none."""
    way = first_free(marks, score)
    return first_free(marks, turned(score)) if way is None else way


def common_score(marks, score, way, thing):
    """The score that a way, as scored_way tells it, has in common with all endless ways through the thing.

    It is 0 without such a way; None if there is another score, or one other than 0 of an endless way beside the thing.
    """
    if way is None:
        return 0
    if thing not in things_on(way):
        return None
    number = total_on(way, score)
    jumps = open_jumps(marks)
    if extremes(marks.stair, jumps_beside(jumps, thing), score) not in (None, (0, 0)):
        return None
    return number if extremes(marks.stair, jumps_through(jumps, thing), score) == (number, number) else None


def sides_of(marks, score):
    """The sides with the greatest and the least score, which are not endless; score has all steps to be met at."""
    told = marks.told()
    one = led_best(marks.stair, told, score)
    if one is None:
        raise NothingFits()
    back = turned(score)
    other = led_best(marks.stair, told, back)
    return Side(one[0], score, one[1]), Side(other[0], back, other[1])


def without(score, thing, number):
    """A score by which crowds that wear the thing as often differ as much, with a number taken from this thing."""
    return {**score, thing: score.get(thing, 0) - number}


def met(marks, score, thing):
    """Two sides that fit and wear the thing as often, their scores as far from one another as can be, and its arc."""
    check_score(marks.stair, score)
    check_thing(marks.stair, thing)
    number = common_score(marks, score, scored_way(marks, score), thing)
    if number is None:
        if does_fit(marks):
            raise Endless()
        raise NothingFits()
    one, other = sides_of(marks, without(score, thing, number))
    arc = one.network.labels.index(thing)
    meet(one, other, arc)
    return one, other, arc


def least_gap(sides, thing):
    """By how much the scores of two sides differ at the most where they wear the thing as often."""
    one, other = sides
    arc = one.network.labels.index(thing)
    return one.most + other.most - meet(one, other, arc)


def width(marks, score, thing):
    """The greatest difference of the scores of two crowds that fit and wear the thing as often."""
    one, other, _ = met(marks, score, thing)
    return score_in(one.network, score) - score_in(other.network, score)


def two_crowds(marks, score, thing):
    """Two Crowds that fit and wear the thing as often, the score of the first one being greater by the width."""
    one, other, _ = met(marks, score, thing)
    return crowd_of(marks.stair, one.network), crowd_of(marks.stair, other.network)


def prices_of(side, stair, score, arc):
    """The prices that show, by the heights of a side, that no score is greater; that of the arc as it is."""
    network = side.network
    prices = network.prices(score, side.height)
    thing = network.labels[arc]
    price = score.get(thing, 0) + side.height[network.fronts[2 * arc]] - side.height[network.fronts[2 * arc + 1]]
    return stair.in_order({key: number for key, number in {**prices, thing: price}.items() if number != 0})


def width_prices(marks, score, thing):
    """Width prices (upper, lower) whose joint worth is the width."""
    one, other, arc = met(marks, score, thing)
    return prices_of(one, marks.stair, score, arc), prices_of(other, marks.stair, turned(score), arc)


def joint_by(told, thing, upper, lower):
    """The joint worth of two prices by a dict from things to marks, where the thing is measured; None without one."""
    price = upper.get(thing, 0) + lower.get(thing, 0)
    parts = [worth_of(told, {other: prices[other] for other in prices if other != thing}) for prices in (upper, lower)]
    parts.append(worth_of(told, {thing: price} if price != 0 else {}))
    return None if None in parts else sum(parts)


def joint_worth(marks, thing, upper, lower):
    """The joint worth of two prices where the thing is measured; None if there is none."""
    check_thing(marks.stair, thing)
    check_prices(marks.stair, upper)
    check_prices(marks.stair, lower)
    return joint_by(marks.told(), thing, upper, lower)


def are_enough(stair, score, prices):
    """Whether no way has a score above its price."""
    above = greatest_total(stair, difference(score, prices))
    return above is None or above <= 0


def are_width_prices(marks, score, thing, most, value):
    """Whether any value is width prices whose joint worth is at most most."""
    check_score(marks.stair, score)
    check_thing(marks.stair, thing)
    check_count(most)
    if not isinstance(value, tuple) or len(value) != 2:
        return False
    upper, lower = value
    if not are_prices_of(marks.stair, upper) or not are_prices_of(marks.stair, lower):
        return False
    total = joint_by(marks.told(), thing, upper, lower)
    if total is None or total > most:
        return False
    return are_enough(marks.stair, score, upper) and are_enough(marks.stair, turned(score), lower)


def best_measure(marks, score):
    """The tuple (thing, width) of the first thing whose width is least; ("feet", None) if all are endless."""
    check_score(marks.stair, score)
    stair = marks.stair
    whole = {**{step: 0 for step in range(1, stair.head)}, **score}
    way = scored_way(marks, score)
    best = ("feet", None)
    sides = None
    for thing in stair.things():
        number = common_score(marks, score, way, thing)
        # No width is less than 0.
        if number is not None and best[1] != 0:
            if sides is None or number != 0:
                sides = sides_of(marks, without(whole, thing, number))
            many = least_gap(sides, thing)
            if best[1] is None or many < best[1]:
                best = (thing, many)
    if sides is None and not does_fit(marks):
        raise NothingFits()
    return best
