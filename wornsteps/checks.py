"""Which values are valid, and the checks of parameters, each with the error that belongs to its name."""

from math import gcd

from wornsteps.errors import (InvalidBounds, InvalidCount, InvalidLengths, InvalidPrices, InvalidRun, InvalidScore,
                              InvalidThing, InvalidWay, OtherStair, OtherSteps)

MOST_LENGTH = 11
MOST_SCORE = 1000
FREE = (0, None)


class Ready:
    """What this package made itself, so that the object which it becomes a part of need not check it once more."""

    def __init__(self, part):
        self.part = part


def is_number(value):
    """Whether any value is an INTEGER: True and False are none."""
    return isinstance(value, int) and not isinstance(value, bool)


def is_count(value):
    """Whether any value is a COUNT."""
    return is_number(value) and value >= 0


def is_list(value):
    """Whether any value is accepted where a list is passed."""
    return isinstance(value, (list, tuple))


def is_length(value):
    """Whether any value is a length that a jump of some stair can have."""
    return is_number(value) and 1 <= value <= MOST_LENGTH


def is_jump(steps, value):
    """Whether any value is a jump between the places of a stair with so many steps."""
    if not isinstance(value, tuple) or len(value) != 2:
        return False
    i, j = value
    return is_number(i) and is_number(j) and 0 <= i < j <= steps + 1


def is_way(stair, value):
    """Whether any value is a way of the stair."""
    return stair.is_run(value) and value[0] == 0 and value[-1] == stair.head


def is_score(stair, value):
    """Whether any value is a score of things of the stair."""
    return isinstance(value, dict) and are_score_numbers(value) and stair.has_things(value)


def are_score_numbers(table):
    """Whether each value of a dict is a number that a score can have for a thing."""
    # One loop, and no call for each number: scores of all things of a stair are checked again and again.
    for number in table.values():
        if not isinstance(number, int) or number is True or number is False:
            return False
        if not -MOST_SCORE <= number <= MOST_SCORE:
            return False
    return True


def is_step(stair, value):
    """Whether any value is a step of the stair."""
    return is_number(value) and 1 <= value <= stair.steps


def is_mark(value):
    """Whether any value is a mark."""
    if not isinstance(value, tuple) or len(value) != 2:
        return False
    low, high = value
    return is_count(low) and (high is None or is_number(high) and high >= low)


def is_within(mark, outer):
    """Whether all numbers that a mark lets are let by another one, too."""
    low, high = outer
    return low <= mark[0] and (high is None or mark[1] is not None and mark[1] <= high)


def is_fraction(value):
    """Whether any value is a FRACTION: in lowest terms, with a bottom of at least 1."""
    if not isinstance(value, tuple) or len(value) != 2:
        return False
    top, bottom = value
    return is_number(top) and is_number(bottom) and bottom >= 1 and gcd(top, bottom) == 1


def are_prices_of(stair, value):
    """Whether any value is prices of things of the stair."""
    if not isinstance(value, dict):
        return False
    for number in value.values():
        if not is_number(number) or number == 0:
            return False
    return stair.has_things(value)


def first_wrong(row, right):
    """The position of the first value in the row that is not right, or stands ahead; None if there is none."""
    # What is right is a list of bools, and no function: operators check stairs, and call nothing that is passed.
    ahead = {}
    for at, (value, is_right) in enumerate(zip(row, right)):
        # Only right values are looked up, so that this is safe, whatever the rest is.
        if not is_right or value in ahead:
            return at
        ahead[value] = True
    return None


def check_lengths(lengths):
    """Refuse lengths unless each one is a length, and none stands there twice."""
    wrong = first_wrong(lengths, [is_length(length) for length in lengths])
    if wrong is not None:
        raise InvalidLengths(wrong)


def check_count(value):
    """Refuse any value that is no COUNT."""
    if not is_count(value):
        raise InvalidCount(value)


def check_thing(stair, thing):
    """Refuse any value that is no thing of the stair."""
    if thing not in stair:
        raise InvalidThing(thing)


def check_way(stair, way):
    """Refuse any value that is no way of the stair."""
    if not is_way(stair, way):
        raise InvalidWay(way)


def check_score(stair, score):
    """Refuse any value that is no score of things of the stair."""
    if not is_score(stair, score):
        raise InvalidScore(score)


def check_run(stair, run):
    """Refuse any value that is no run of the stair."""
    if not stair.is_run(run):
        raise InvalidRun(run)


def check_prices(stair, prices):
    """Refuse any value that is no prices of things of the stair."""
    if not are_prices_of(stair, prices):
        raise InvalidPrices(prices)


def is_bound(stair, value):
    """Whether any value is a bound of a thing of the stair."""
    if not isinstance(value, tuple) or len(value) != 2:
        return False
    side, thing = value
    return isinstance(side, str) and side in ("low", "high") and thing in stair


def wrong_bound(stair, value):
    """The position of the first element of a list that is no bound, or stands ahead; None if there is none."""
    return first_wrong(value, [is_bound(stair, bound) for bound in value])


def are_bounds(stair, value):
    """Whether any value is a list of bounds of things of the stair, each once."""
    return is_list(value) and wrong_bound(stair, value) is None


def check_bounds(stair, bounds):
    """Refuse any value that is no list of bounds of things of the stair, each once."""
    if not is_list(bounds):
        raise InvalidBounds(None)
    wrong = wrong_bound(stair, bounds)
    if wrong is not None:
        raise InvalidBounds(wrong)


def check_same_stair(one, other):
    """Refuse two stairs that are unlike."""
    if not one == other:
        raise OtherStair(one, other)


def check_same_steps(one, other):
    """Refuse two stairs with unlike numbers of steps."""
    if one.steps != other.steps:
        raise OtherSteps(one.steps, other.steps)
