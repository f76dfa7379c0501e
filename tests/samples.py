"""Stairs and wrong values that several tests use, and slow but plain answers to compare with."""

import functools
import itertools
import random

from wornsteps.stairs import Stair


class EqualToAll:
    """Says that it equals anything: a value of another kind must be refused all the same."""

    def __eq__(self, other):
        return True

    def __hash__(self):
        return hash(1)


def odd_values():
    """Values of many kinds, none of which is an INTEGER, a list, a tuple or a dict with an element."""
    return [None, True, False, "", "1", "feet", "Feet", b"", b"1", set(), {1}, frozenset(), {}, range(3), iter([1]),
            object(), EqualToAll(), len, lambda: 1, int, Stair, Stair(1, [(0, 1)]), NotImplemented, ..., 1j]


def all_jumps(steps):
    """All tuples that are jumps between the places of so many steps, sorted."""
    return list(itertools.combinations(range(steps + 2), 2))


def forty_jumps():
    """Forty jumps between the places of ten steps, sorted."""
    short = [(i, j) for i, j in all_jumps(10) if j - i <= 4]
    return sorted(short + [(0, 11), (2, 9)])


def some_stairs():
    """Stairs with many ways, with dead ends, and without a way, of one to ten steps."""
    chance = random.Random(20)
    rows = [Stair(1, []), Stair(1, [(0, 2)]), Stair(1, [(0, 1)]), Stair(1, [(0, 1), (1, 2)]), Stair.of(1, 1, 2),
            Stair(3, [(0, 1), (2, 4)]), Stair(3, [(1, 2), (2, 3), (3, 4)]), Stair(10, forty_jumps()),
            Stair(10, all_jumps(10)[:40]), Stair(10, all_jumps(10)[-40:]), Stair.of(10, 11), Stair.of(10, 1)]
    for steps in range(1, 11):
        rows.append(Stair.of(steps, 1, 2, 3))
        for _ in range(4):
            jumps = all_jumps(steps)
            many = chance.randint(0, min(40, len(jumps)))
            rows.append(Stair(steps, chance.sample(jumps, many)))
    return rows


@functools.lru_cache(maxsize=None)
def tried_ways(steps, jumps):
    """All ways by a tuple of jumps, sorted, found by trying all choices of steps."""
    found = []
    for many in range(steps + 1):
        for chosen in itertools.combinations(range(1, steps + 1), many):
            way = (0,) + chosen + (steps + 1,)
            if all(jump in jumps for jump in zip(way, way[1:])):
                found.append(way)
    return sorted(found)


def plain_ways(stair):
    """All ways, sorted, found by trying all choices of steps."""
    return list(tried_ways(stair.steps, tuple(stair.jumps())))


@functools.lru_cache(maxsize=None)
def tried_passed(steps, jumps, way):
    """The things that a way passes, in the order of things, each found by itself."""
    made = [(way[k], way[k + 1]) for k in range(len(way) - 1)]
    return ["feet"] + [step for step in range(1, steps + 1) if step in way] + [jump for jump in jumps if jump in made]


def plain_passed(stair, way):
    """The things that a way passes, in the order of things, each found by itself."""
    return list(tried_passed(stair.steps, tuple(stair.jumps()), way))


def some_scores(stair):
    """Scores of things of the stair: none, one, ties, the limits, all things."""
    chance = random.Random(stair.steps + len(stair))
    things = stair.things()
    rows = [{}, {"feet": 7}, {"feet": -7, 1: 3}, {thing: 1 for thing in things}, {thing: -1 for thing in things}]
    rows.append({thing: chance.choice([-1000, 1000]) for thing in things})
    rows.append({thing: chance.randint(-1000, 1000) for thing in reversed(things)})
    for _ in range(4):
        chosen = chance.sample(things, chance.randint(1, len(things)))
        rows.append({thing: chance.randint(-2, 2) for thing in chosen})
    return rows


def large_stair():
    """A stair of ten steps with forty jumps."""
    return Stair(10, forty_jumps())


def small_stairs(most_ways):
    """Stairs of one to three steps with at most so many ways; some have none, and dead things."""
    chance = random.Random(31)
    rows = [Stair(1, []), Stair(1, [(0, 2)]), Stair(1, [(0, 1), (0, 2), (1, 2)]), Stair.of(2, 1, 2), Stair.of(3, 1, 2),
            Stair(2, [(0, 1), (1, 2)]), Stair(3, [(0, 1), (0, 2), (1, 4), (2, 4), (3, 4)])]
    for steps in (1, 2, 3):
        jumps = all_jumps(steps)
        for _ in range(12):
            rows.append(Stair(steps, chance.sample(jumps, chance.randint(len(jumps) // 2, len(jumps)))))
    return [stair for stair in rows if len(plain_ways(stair)) <= most_ways]


def plain_total(stair, table, way):
    """What a dict from things to numbers has together for the things that a way passes."""
    return sum(table.get(thing, 0) for thing in plain_passed(stair, way))


def plain_wears(stair, ways):
    """The dict from all things to how many feet pass each, by a dict of ways."""
    lists = [(plain_passed(stair, way), many) for way, many in ways.items()]
    return {thing: sum(many for row, many in lists if thing in row) for thing in stair.things()}


def plain_worth(told, prices):
    """The worth of prices by a dict from things to marks; None if there is none."""
    if any(price > 0 and told.get(thing, (0, None))[1] is None for thing, price in prices.items()):
        return None
    return sum(price * told.get(thing, (0, None))[price > 0] for thing, price in prices.items())


def lets(told, worn):
    """Whether wears lie within marks."""
    return all(low <= worn[thing] and (high is None or worn[thing] <= high) for thing, (low, high) in told.items())


def some_feet(stair, most):
    """All dicts of ways with at most so many feet together."""
    ways = plain_ways(stair)
    rows = []
    for counts in itertools.product(range(most + 1), repeat=len(ways)):
        if sum(counts) <= most:
            rows.append({way: many for way, many in zip(ways, counts) if many})
    return rows


def chance_ways(chance, stair, unlike, most):
    """A dict of up to so many unlike ways, with up to so many feet each."""
    ways = plain_ways(stair)
    chosen = chance.sample(ways, min(unlike, len(ways)))
    return {way: chance.randint(1, most) for way in chosen}


def chance_marks(chance, stair, unlike, most, slack):
    """Marks of chance: a dict from things to marks about the wears of a crowd, some of which may not be let."""
    worn = plain_wears(stair, chance_ways(chance, stair, unlike, most))
    told = {}
    for thing in chance.sample(stair.things(), chance.randint(0, len(stair.things()))):
        low = max(0, worn[thing] - chance.choice([0, 0, 1, slack]) + chance.choice([0, 0, 0, 0, 0, slack]))
        told[thing] = (low, chance.choice([None, low, low + slack, max(low, worn[thing])]))
    return told
