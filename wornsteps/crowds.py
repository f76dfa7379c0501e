"""Crowds: how many feet go which way, how often they wear each thing, and exchanges between ways."""

from wornsteps.checks import (Ready, check_run, check_same_stair, check_thing, check_way, is_count, is_number, is_step,
                              is_way)
from wornsteps.errors import (InvalidCount, InvalidThing, InvalidWay, InvalidWays, NotBetween, NotTogether, TooMany,
                              UnknownWay)


def are_ways(stair, value):
    """Whether any value is a dict from ways of the stair to COUNTS of at least 1."""
    if not isinstance(value, dict):
        return False
    for way, many in value.items():
        if not is_number(many) or many < 1 or not is_way(stair, way):
            return False
    return True


def goes_along(way, run):
    """Whether a way makes all jumps of a run."""
    if run[0] not in way:
        return False
    at = way.index(run[0])
    return way[at:at + len(run)] == run


def passes(way, thing):
    """Whether a way passes a thing."""
    if isinstance(thing, str):
        return True
    if isinstance(thing, tuple):
        return goes_along(way, thing)
    return thing in way


def changed(ways, rows):
    """The dict of ways behind rows of a way and how many feet more, or less, go it."""
    many = {}
    for way in ways:
        many[way] = ways[way]
    for way, more in rows:
        many[way] = many.get(way, 0) + more
    return {way: many[way] for way in many if many[way] > 0}


def crossed(one, other, step):
    """The two ways that come of going on, behind a step of both, as the other one did."""
    here = one.index(step)
    there = other.index(step)
    return one[:here] + other[there:], other[:there] + one[here:]


def exchange_rows(one, other, step, many):
    """The rows by which an exchange changes the ways of a crowd."""
    first, second = crossed(one, other, step)
    return [(one, -many), (other, -many), (first, many), (second, many)]


def most_exchanged(ways, one, other):
    """How many feet of two ways of a crowd can be exchanged."""
    return ways[one] // 2 if one == other else min(ways[one], ways[other])


class Crowd:
    """A crowd of a stair: how many feet go which way; it never changes."""

    MOST_WAYS = 60

    def __init__(self, stair, ways=None):
        table = {}
        if isinstance(ways, Ready):
            table = ways.part
        elif ways is not None:
            if not are_ways(stair, ways):
                raise InvalidWays(ways)
            table = ways
        if len(table) > Crowd.MOST_WAYS:
            raise TooMany("ways", Crowd.MOST_WAYS)
        self._stair = stair
        self._ways = {way: table[way] for way in sorted(table)}
        self._feet = sum(table.values())

    @staticmethod
    def of(stair, *ways):
        """The crowd in which each way is gone as often as it stands here."""
        for way in ways:
            check_way(stair, way)
        return Crowd(stair, Ready(changed({}, [(way, 1) for way in ways])))

    @property
    def stair(self):
        """The stair that the feet go up."""
        return self._stair

    @property
    def feet(self):
        """How many feet there are."""
        return self._feet

    def ways(self):
        """The dict from the ways, sorted, to how many feet go each."""
        return {way: self._ways[way] for way in self._ways}

    def wear(self, thing):
        """How many feet pass the thing."""
        check_thing(self._stair, thing)
        return sum([self._ways[way] for way in self._ways if passes(way, thing)])

    def wears(self):
        """The dict from all things, in order, to how many feet pass each."""
        worn = {thing: 0 for thing in self._stair.things()}
        worn["feet"] = self._feet
        head = self._stair.head
        for way, many in self._ways.items():
            for jump in zip(way, way[1:]):
                worn[jump] += many
                if jump[1] != head:
                    worn[jump[1]] += many
        return worn

    def flow(self):
        """The dict from all jumps, sorted, to how many feet make each."""
        worn = {jump: 0 for jump in self._stair.jumps()}
        for way, many in self._ways.items():
            for jump in zip(way, way[1:]):
                worn[jump] += many
        return worn

    def along(self, run):
        """How many feet go along the run."""
        check_run(self._stair, run)
        return sum([self._ways[way] for way in self._ways if goes_along(way, run)])

    def is_part_of(self, other):
        """Whether the other crowd has the same stair, and at least as many feet on each way."""
        if not self._stair == other._stair:
            return False
        return all([self._ways[way] <= other._ways.get(way, 0) for way in self._ways])

    def exchanged(self, one, other, step, many=1):
        """The crowd in which so many feet of two ways have gone on, behind a step, as the others did."""
        for way in (one, other):
            if way not in self:
                raise UnknownWay(way)
        if not is_step(self._stair, step):
            raise InvalidThing(step)
        if not is_count(many) or many == 0:
            raise InvalidCount(many)
        if step not in one or step not in other:
            raise NotTogether(step)
        greatest = most_exchanged(self._ways, one, other)
        if many > greatest:
            raise NotBetween(1, greatest)
        return Crowd(self._stair, Ready(changed(self._ways, exchange_rows(one, other, step, many))))

    def __len__(self):
        return len(self._ways)

    def __contains__(self, x):
        return is_way(self._stair, x) and x in self._ways

    def __iter__(self):
        return iter(self._ways)

    def __getitem__(self, at):
        check_way(self._stair, at)
        return self._ways.get(at, 0)

    def __add__(self, other):
        if isinstance(other, Crowd):
            check_same_stair(self._stair, other._stair)
            return Crowd(self._stair, Ready(changed(self._ways, list(other._ways.items()))))
        check_way(self._stair, other)
        return Crowd(self._stair, Ready(changed(self._ways, [(other, 1)])))

    def __sub__(self, other):
        if not is_way(self._stair, other) or other not in self._ways:
            raise UnknownWay(other)
        return Crowd(self._stair, Ready(changed(self._ways, [(other, -1)])))

    def __mul__(self, other):
        if not is_count(other):
            raise InvalidCount(other)
        if other == 0:
            return Crowd(self._stair)
        return Crowd(self._stair, Ready({way: self._ways[way] * other for way in self._ways}))

    def __rmul__(self, other):
        return self * other

    def __eq__(self, other):
        return isinstance(other, Crowd) and self._stair == other._stair and self._ways == other._ways

    def __repr__(self):
        return f"Crowd({self._stair!r}, {self._ways})"
