"""Marks: how often each thing was worn, at least and at most."""

from wornsteps.checks import FREE, Ready, check_same_stair, check_thing, is_mark, is_within
from wornsteps.errors import InvalidMark, InvalidMarks, Unmeeting
from wornsteps.names import TEXTS


def are_marks(stair, value):
    """Whether any value is a dict from things of the stair to marks."""
    if not isinstance(value, dict):
        return False
    # One loop, and no call for each mark: dicts of many marks are checked again and again.
    for mark in value.values():
        if not isinstance(mark, tuple) or len(mark) != 2:
            return False
        low, high = mark
        if not isinstance(low, int) or low is True or low is False or low < 0:
            return False
        if high is not None and (not isinstance(high, int) or high is True or high is False or high < low):
            return False
    return stair.has_things(value)


def worth_of(told, prices):
    """The worth of prices by a dict from things to marks; None if there is none."""
    total = 0
    for thing, price in prices.items():
        low, high = told.get(thing, FREE)
        if price < 0:
            total += low * price
        elif high is None:
            return None
        else:
            total += high * price
    return total


def told_of(table):
    """The dict of marks without those that let any number, if there are some."""
    return {thing: mark for thing, mark in table.items() if mark != FREE} if FREE in list(table.values()) else table


def told_text(told):
    """The text of a dict from things to marks, as Python tells it."""
    rows = [f"{TEXTS[thing]}: ({low}, {high})" for thing, (low, high) in told.items()]
    return "{" + ", ".join(rows) + "}"


def right_marks(stair, table):
    """The Marks of a dict that is known to be one from things of the stair to marks."""
    return Marks(stair, Ready(told_of(stair.in_order(table))))


class Marks:
    """Marks of things of a stair; a thing that is not told has (0, None). They never change."""

    def __init__(self, stair, marks=None):
        self._stair = stair
        if isinstance(marks, Ready):
            self._told = marks.part
        elif marks is None:
            self._told = {}
        elif are_marks(stair, marks):
            self._told = told_of(stair.in_order(marks))
        else:
            raise InvalidMarks(marks)

    @property
    def stair(self):
        """The stair whose things are marked."""
        return self._stair

    def told(self):
        """The dict from the things with another mark than (0, None), in order, to their marks."""
        return {**self._told}

    def with_mark(self, thing, low, high=None):
        """The marks with another one at the thing."""
        check_thing(self._stair, thing)
        mark = (low, high)
        if not is_mark(mark):
            raise InvalidMark(mark)
        told = {**self._told, thing: mark}
        if mark == FREE:
            del told[thing]
        # A thing that is told keeps its place; another one is put where it belongs.
        return Marks(self._stair, Ready(told if thing in self._told else self._stair.in_order(told)))

    def is_part_of(self, other):
        """Whether the other marks have the same stair, and each mark lies within the other one."""
        if not self._stair == other._stair:
            return False
        return all([is_within(self._told.get(thing, FREE), other._told[thing]) for thing in other._told])

    def __len__(self):
        return len(self._told)

    def __contains__(self, x):
        # As an item that is asked for: all in one go.
        if not isinstance(x, tuple):
            return isinstance(x, (int, str)) and x is not True and x in self._told
        if len(x) != 2:
            return False
        i, j = x
        if not isinstance(i, int) or not isinstance(j, int) or i is True or i is False or j is True:
            return False
        return x in self._told

    def __iter__(self):
        raise TypeError("marks are not iterated over: take what they tell")

    def __getitem__(self, at):
        # All in one go, as in the stair: it is asked again and again, and equal is not enough.
        if not isinstance(at, tuple):
            if isinstance(at, (int, str)) and at is not True and at in self._told:
                return self._told[at]
        elif len(at) == 2:
            i, j = at
            if isinstance(i, int) and isinstance(j, int) and i is not True and i is not False and j is not True:
                mark = self._told.get(at)
                if mark is not None:
                    return mark
        check_thing(self._stair, at)
        return FREE

    def __call__(self, crowd):
        check_same_stair(self._stair, crowd.stair)
        worn = crowd.wears()
        for thing, (low, high) in self._told.items():
            if worn[thing] < low or high is not None and worn[thing] > high:
                return False
        return True

    def __and__(self, other):
        check_same_stair(self._stair, other._stair)
        both = {**self._told, **other._told}
        for thing in self._stair.things():
            if thing in self._told and thing in other._told:
                low, high = self._told[thing]
                least, most = other._told[thing]
                if least > low:
                    low = least
                if high is None or most is not None and most < high:
                    high = most
                if high is not None and low > high:
                    raise Unmeeting(thing)
                both[thing] = (low, high)
        return Marks(self._stair, Ready(self._stair.in_order(both)))

    def __eq__(self, other):
        return isinstance(other, Marks) and self._stair == other._stair and self._told == other._told

    def __repr__(self):
        return f"Marks({self._stair!r}, {told_text(self._told)})"
