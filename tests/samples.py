"""Stairs and wrong values that several tests use, and slow but plain answers to compare with."""

import itertools
import random

from wornsteps.stairs import Stair


class EqualToAll:
    """Says that it equals anything: a value of another kind must be refused all the same."""

    def __eq__(self, other):
        return True

    def __hash__(self):
        return hash(1)


def odd_values():
    """Values of many kinds, none of which is an INTEGER, a list, a tuple or a dict with an element."""
    return [None, True, False, "", "1", "feet", "Feet", b"", b"1", set(), {1}, frozenset(), {}, range(3), iter([1]),
            object(), EqualToAll(), len, lambda: 1, int, Stair, Stair(1, [(0, 1)]), NotImplemented, ..., 1j]


def all_jumps(steps):
    """All tuples that are jumps between the places of so many steps, sorted."""
    return list(itertools.combinations(range(steps + 2), 2))


def forty_jumps():
    """Forty jumps between the places of ten steps, sorted."""
    short = [(i, j) for i, j in all_jumps(10) if j - i <= 4]
    return sorted(short + [(0, 11), (2, 9)])


def some_stairs():
    """Stairs with many ways, with dead ends, and without a way, of one to ten steps."""
    chance = random.Random(20)
    rows = [Stair(1, []), Stair(1, [(0, 2)]), Stair(1, [(0, 1)]), Stair(1, [(0, 1), (1, 2)]), Stair.of(1, 1, 2),
            Stair(3, [(0, 1), (2, 4)]), Stair(3, [(1, 2), (2, 3), (3, 4)]), Stair(10, forty_jumps()),
            Stair(10, all_jumps(10)[:40]), Stair(10, all_jumps(10)[-40:]), Stair.of(10, 11), Stair.of(10, 1)]
    for steps in range(1, 11):
        rows.append(Stair.of(steps, 1, 2, 3))
        for _ in range(4):
            jumps = all_jumps(steps)
            many = chance.randint(0, min(40, len(jumps)))
            rows.append(Stair(steps, chance.sample(jumps, many)))
    return rows


def plain_ways(stair):
    """All ways, sorted, found by trying all choices of steps."""
    jumps = stair.jumps()
    steps = range(1, stair.steps + 1)
    found = []
    for many in range(stair.steps + 1):
        for chosen in itertools.combinations(steps, many):
            way = (0,) + chosen + (stair.steps + 1,)
            if all(jump in jumps for jump in zip(way, way[1:])):
                found.append(way)
    return sorted(found)


def plain_passed(stair, way):
    """The things that a way passes, in the order of things, each found by itself."""
    jumps = [(way[k], way[k + 1]) for k in range(len(way) - 1)]
    return ["feet"] + [s for s in range(1, stair.steps + 1) if s in way] + [j for j in stair.jumps() if j in jumps]


def some_scores(stair):
    """Scores of things of the stair: none, one, ties, the limits, all things."""
    chance = random.Random(stair.steps + len(stair))
    things = stair.things()
    rows = [{}, {"feet": 7}, {"feet": -7, 1: 3}, {thing: 1 for thing in things}, {thing: -1 for thing in things}]
    rows.append({thing: chance.choice([-1000, 1000]) for thing in things})
    rows.append({thing: chance.randint(-1000, 1000) for thing in reversed(things)})
    for _ in range(4):
        chosen = chance.sample(things, chance.randint(1, len(things)))
        rows.append({thing: chance.randint(-2, 2) for thing in chosen})
    return rows
