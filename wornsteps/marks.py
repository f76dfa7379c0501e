"""Marks: how often each thing was worn, at least and at most."""

from wornsteps.checks import FREE, check_same_stair, check_thing, is_mark, is_within
from wornsteps.errors import InvalidMark, InvalidMarks, Unmeeting


def are_marks(stair, value):
    """Whether any value is a dict from things of the stair to marks."""
    if not isinstance(value, dict):
        return False
    for mark in value.values():
        if not is_mark(mark):
            return False
    return stair.has_things(value)


def both_marks(one, other):
    """The tuple of the greater low and the lesser high of two marks; it may be no mark."""
    low, high = one
    if high is None or other[1] is not None and other[1] < high:
        high = other[1]
    return max(low, other[0]), high


def worth_of(told, prices):
    """The worth of prices by a dict from things to marks; None if there is none."""
    total = 0
    for thing, price in prices.items():
        low, high = told.get(thing, FREE)
        if price < 0:
            total += low * price
        elif high is None:
            return None
        else:
            total += high * price
    return total


class Marks:
    """Marks of things of a stair; a thing that is not told has (0, None). They never change."""

    def __init__(self, stair, marks=None):
        table = {} if marks is None else marks
        if not are_marks(stair, table):
            raise InvalidMarks(marks)
        self._stair = stair
        self._told = {thing: table[thing] for thing in stair.things() if table.get(thing, FREE) != FREE}

    @property
    def stair(self):
        """The stair whose things are marked."""
        return self._stair

    def told(self):
        """The dict from the things with another mark than (0, None), in order, to their marks."""
        return {thing: self._told[thing] for thing in self._told}

    def with_mark(self, thing, low, high=None):
        """The marks with another one at the thing."""
        check_thing(self._stair, thing)
        if not is_mark((low, high)):
            raise InvalidMark((low, high))
        return Marks(self._stair, {**self._told, thing: (low, high)})

    def is_part_of(self, other):
        """Whether the other marks have the same stair, and each mark lies within the other one."""
        if not self._stair == other._stair:
            return False
        return all([is_within(self._told.get(thing, FREE), other._told[thing]) for thing in other._told])

    def __len__(self):
        return len(self._told)

    def __contains__(self, x):
        return x in self._stair and x in self._told

    def __iter__(self):
        raise TypeError("marks are not iterated over: take what they tell")

    def __getitem__(self, at):
        check_thing(self._stair, at)
        return self._told.get(at, FREE)

    def __call__(self, crowd):
        check_same_stair(self._stair, crowd.stair)
        worn = crowd.wears()
        for thing, (low, high) in self._told.items():
            if worn[thing] < low or high is not None and worn[thing] > high:
                return False
        return True

    def __and__(self, other):
        check_same_stair(self._stair, other._stair)
        both = {}
        for thing in self._stair.things():
            low, high = both_marks(self._told.get(thing, FREE), other._told.get(thing, FREE))
            if high is not None and low > high:
                raise Unmeeting(thing)
            both[thing] = (low, high)
        return Marks(self._stair, both)

    def __eq__(self, other):
        return isinstance(other, Marks) and self._stair == other._stair and self._told == other._told

    def __repr__(self):
        return f"Marks({self._stair!r}, {self._told})"
