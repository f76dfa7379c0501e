"""Stairs: steps, the jumps between their places, and what can be done with them."""

from wornsteps.checks import Ready, check_lengths, check_same_steps, is_jump, is_list, is_number, is_way
from wornsteps.errors import InvalidJump, InvalidJumps, InvalidSteps, TooMany
from wornsteps.names import TEXTS


def check_steps(steps):
    """Refuse any value that is no number of steps."""
    if not is_number(steps) or not 1 <= steps <= Stair.MOST_STEPS:
        raise InvalidSteps(steps)


def sorted_jumps(steps, jumps):
    """The sorted list of jumps; any value that is no list of unlike jumps between these places is refused."""
    if not is_list(jumps):
        raise InvalidJumps(None)
    head = steps + 1
    ahead = {}
    # One loop, and no call for each jump: many stairs are made, one behind another.
    for at, jump in enumerate(jumps):
        if not isinstance(jump, tuple) or len(jump) != 2:
            raise InvalidJumps(at)
        i, j = jump
        if not isinstance(i, int) or not isinstance(j, int) or i is True or i is False or j is True:
            raise InvalidJumps(at)
        if not 0 <= i < j <= head or jump in ahead:
            raise InvalidJumps(at)
        ahead[(i, j)] = True
    return sorted(ahead)


class Stair:
    """A stair: its steps, numbered from 1, and its jumps; it never changes."""

    MOST_STEPS = 10
    MOST_JUMPS = 40

    def __init__(self, steps, jumps):
        if isinstance(jumps, Ready):
            self._jumps = sorted(jumps.part)
        else:
            check_steps(steps)
            self._jumps = sorted_jumps(steps, jumps)
        if len(self._jumps) > Stair.MOST_JUMPS:
            raise TooMany("jumps", Stair.MOST_JUMPS)
        self._steps = steps
        self._things = ["feet"] + list(range(1, steps + 1)) + self._jumps
        # In a dict a thing is found at once, however many there are.
        self._table = {thing: True for thing in self._things}

    @staticmethod
    def of(steps, *lengths):
        """The stair with all jumps of these lengths."""
        check_steps(steps)
        check_lengths(lengths)
        return Stair(steps, Ready([(i, i + length) for length in lengths for i in range(steps + 2 - length)]))

    @property
    def steps(self):
        """How many steps there are."""
        return self._steps

    @property
    def head(self):
        """The place behind the last step."""
        return self._steps + 1

    def jumps(self):
        """The sorted list of the jumps."""
        return list(self._jumps)

    def things(self):
        """The list of the things, in order."""
        return list(self._things)

    def lengths(self):
        """The sorted list of the lengths of the jumps, each once."""
        return sorted({j - i for i, j in self._jumps})

    def is_run(self, value):
        """Whether any value is a tuple of two or more places, with a jump of the stair from each to the next."""
        if not isinstance(value, tuple) or len(value) < 2:
            return False
        for place in value:
            if not isinstance(place, int) or place is True or place is False:
                return False
        known = self._table
        for jump in zip(value, value[1:]):
            if jump not in known:
                return False
        return True

    def has_things(self, table):
        """Whether each key of a dict is one of the things."""
        known = self._table
        for thing in table:
            if thing not in known:
                return False
            # Equal is not enough: True equals 1, but it is no step, and (0, True) is no jump.
            if isinstance(thing, tuple):
                i, j = thing
                if not isinstance(i, int) or not isinstance(j, int) or i is True or i is False or j is True:
                    return False
            elif not isinstance(thing, (int, str)) or thing is True:
                return False
        return True

    def in_order(self, table):
        """The dict from those things that a dict has, in order, to what it has for them."""
        return {thing: table[thing] for thing in self._things if thing in table}

    def is_part_of(self, other):
        """Whether the other stair has as many steps, and each jump of this one."""
        return self._steps == other._steps and all([jump in other._table for jump in self._jumps])

    def __len__(self):
        return len(self._jumps)

    def __contains__(self, x):
        # All in one go: it is asked again and again, and equal is not enough, as has_things says.
        if not isinstance(x, tuple):
            return isinstance(x, (int, str)) and x is not True and x in self._table
        if len(x) != 2:
            return False
        i, j = x
        if not isinstance(i, int) or not isinstance(j, int) or i is True or i is False or j is True:
            return False
        return x in self._table

    def __iter__(self):
        return iter(self._jumps)

    def __call__(self, value):
        return is_way(self, value)

    def __add__(self, other):
        if not is_jump(self._steps, other):
            raise InvalidJump(other)
        return Stair(self._steps, Ready([jump for jump in self._jumps if jump != other] + [other]))

    def __sub__(self, other):
        if not is_jump(self._steps, other) or other not in self._table:
            raise InvalidJump(other)
        return Stair(self._steps, Ready([jump for jump in self._jumps if jump != other]))

    def __or__(self, other):
        check_same_steps(self, other)
        return Stair(self._steps, Ready(self._jumps + [jump for jump in other._jumps if jump not in self._table]))

    def __and__(self, other):
        check_same_steps(self, other)
        return Stair(self._steps, Ready([jump for jump in self._jumps if jump in other._table]))

    def __eq__(self, other):
        return isinstance(other, Stair) and self._steps == other._steps and self._jumps == other._jumps

    def __repr__(self):
        return f"Stair({self._steps}, [{', '.join([TEXTS[jump] for jump in self._jumps])}])"
