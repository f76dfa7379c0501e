"""Shares of the pairs of a study: which fit, what denies them, and the greatest and least score of those that fit."""

from math import gcd, lcm

from wornsteps.checks import FREE, are_score_numbers, is_fraction
from wornsteps.errors import Endless, InvalidCount, InvalidMarks, InvalidScore, InvalidShares, NothingFits, TooMany
from wornsteps.habits import Study, things_of
from wornsteps.marks import are_marks, worth_of
from wornsteps.simplex import Table
from wornsteps.ways import turned


def reduced(top, bottom):
    """The FRACTION with this top and bottom, which is above 0."""
    common = gcd(top, bottom)
    return (top // common, bottom // common)


def are_shares(study, value):
    """Whether any value is shares of the study."""
    if not isinstance(value, dict):
        return False
    for pair, share in value.items():
        if not is_fraction(share) or share[0] <= 0 or pair not in study:
            return False
    return True


def are_multipliers_of(study, value):
    """Whether any value is a dict from things of the study to FRACTIONS other than 0."""
    if not isinstance(value, dict):
        return False
    for number in value.values():
        if not is_fraction(number) or number[0] == 0:
            return False
    return study.has_things(value)


def check_marks(study, marks):
    """The dict of the marks; any value that is no marks of the study is refused."""
    told = {} if marks is None else marks
    if not are_marks(study, told):
        raise InvalidMarks(marks)
    return told


def check_many(told):
    """Refuse marks with too many keys."""
    if len(told) > Study.MOST_MARKS:
        raise TooMany("marks", Study.MOST_MARKS)


def check_shares(study, shares):
    """Refuse any value that is no shares of the study."""
    if not are_shares(study, shares):
        raise InvalidShares(shares)


def check_study_score(study, score):
    """Refuse any value that is no score of the study."""
    if not isinstance(score, dict) or not are_score_numbers(score) or not study.has_things(score):
        raise InvalidScore(score)


def over_one_bottom(fractions):
    """A dict of fractions as whole numbers over one bottom, and this bottom."""
    bottom = 1
    for fraction in fractions.values():
        bottom = lcm(bottom, fraction[1])
    return {key: fraction[0] * (bottom // fraction[1]) for key, fraction in fractions.items()}, bottom


def worn_by(study, shares):
    """The dict from all things, in order, to the wear by shares, times a bottom; and this bottom."""
    tops, bottom = over_one_bottom(shares)
    worn = {thing: 0 for thing in study.things()}
    for pair, top in tops.items():
        for thing in things_of(pair):
            worn[thing] += top
    return worn, bottom


def share_wear(study, shares):
    """The dict from all things, in order, to their wear by the shares."""
    check_shares(study, shares)
    worn, bottom = worn_by(study, shares)
    return {thing: reduced(worn[thing], bottom) for thing in worn}


def is_whole(study, shares):
    """Whether all shares are whole numbers."""
    check_shares(study, shares)
    return all([share[1] == 1 for share in shares.values()])


def do_shares_fit(study, marks, value):
    """Whether any value is shares that fit the marks."""
    told = check_marks(study, marks)
    check_many(told)
    if not are_shares(study, value):
        return False
    worn, bottom = worn_by(study, value)
    for thing, (low, high) in told.items():
        if worn[thing] < low * bottom or high is not None and worn[thing] > high * bottom:
            return False
    return True


def pair_totals(study, table):
    """The list of the sums of what a dict from things to numbers has for the things that each pair passes."""
    totals = [0] * len(study)
    for thing, number in table.items():
        for at in study.passing(thing):
            totals[at] += number
    return totals


class Problem:
    """Which shares fit the marks of a study: a table with a column for all pairs that pass the same marked things."""

    def __init__(self, study, told):
        self.study = study
        self.marked = [thing for thing in study.things() if told.get(thing, FREE) != FREE]
        bits = pair_totals(study, {thing: 1 << r for r, thing in enumerate(self.marked)})
        groups = {column: [] for column in bits}
        for at, column in enumerate(bits):
            groups[column].append(at)
        self.groups = groups
        self.table = Table(list(groups), [told[thing] for thing in self.marked])

    def settle(self):
        """Find shares that fit: None, or the dict from marked things to whole multipliers that deny it."""
        found = self.table.settle()
        return None if found is None else self.by_thing(found)

    def by_thing(self, found):
        """The dict from things, in order, to what a dict from rows has for them."""
        return {thing: found[r] for r, thing in enumerate(self.marked) if r in found}

    def climb(self, totals):
        """Let the sum of the shares times the totals of the pairs be greatest; whether there is a greatest."""
        self.table.add_aim([max([totals[at] for at in group]) for group in self.groups.values()])
        return self.table.climb()

    def drop_aim(self):
        """Forget what was to be greatest; the shares stay as they stand."""
        self.table.drop_aim()

    def aim(self):
        """The greatest sum, a FRACTION."""
        return reduced(self.table.totals()[-1], self.table.bottom)

    def multipliers(self):
        """The multipliers that show that no sum is greater."""
        found = self.by_thing(self.table.multipliers(self.table.lines[-1]))
        return {thing: reduced(found[thing], self.table.bottom) for thing in found}

    def shares(self, totals):
        """The shares as they stand, each of the pair with the greatest total that it can be of."""
        pairs = self.study.pairs()
        groups = list(self.groups.values())
        found = {}
        for column, top in self.table.shares().items():
            best = max(groups[column], key=lambda at: totals[at])
            found[pairs[best]] = reduced(top, self.table.bottom)
        return {pair: found[pair] for pair in sorted(found)}


def settled(study, told):
    """A problem of which the shares fit."""
    problem = Problem(study, told)
    if problem.settle() is not None:
        raise NothingFits()
    return problem


def climbed(study, marks, score):
    """A problem of which the shares fit and have the greatest score, and the scores of the pairs."""
    told = check_marks(study, marks)
    check_study_score(study, score)
    check_many(told)
    problem = settled(study, told)
    totals = pair_totals(study, score)
    if not problem.climb(totals):
        raise Endless()
    return problem, totals


def fitting_shares(study, marks):
    """Shares that fit the marks; None if there are none."""
    told = check_marks(study, marks)
    check_many(told)
    problem = Problem(study, told)
    return problem.shares([0] * len(study)) if problem.settle() is None else None


def denial(study, marks):
    """Multipliers that show that no shares fit the marks; None if some do."""
    told = check_marks(study, marks)
    check_many(told)
    found = Problem(study, told).settle()
    return None if found is None else {thing: (found[thing], 1) for thing in found}


def is_denial(study, marks, value):
    """Whether any value is multipliers that show that no shares fit the marks."""
    told = check_marks(study, marks)
    check_many(told)
    if not are_multipliers_of(study, value):
        return False
    tops, _ = over_one_bottom(value)
    total = worth_of(told, tops)
    return total is not None and total < 0 and all([price >= 0 for price in pair_totals(study, tops)])


def share_greatest(study, marks, score):
    """The greatest score of the shares that fit, a FRACTION."""
    problem, _ = climbed(study, marks, score)
    return problem.aim()


def share_least(study, marks, score):
    """The least score of the shares that fit, a FRACTION."""
    told = check_marks(study, marks)
    check_study_score(study, score)
    top, bottom = share_greatest(study, told, turned(score))
    return (-top, bottom)


def best_shares(study, marks, score):
    """Shares that fit and have the greatest score."""
    problem, totals = climbed(study, marks, score)
    return problem.shares(totals)


def best_multipliers(study, marks, score):
    """Multipliers by which no pair has a score above its price, and whose worth is the greatest score."""
    problem, _ = climbed(study, marks, score)
    return problem.multipliers()


def are_multipliers(study, marks, score, most, value):
    """Whether any value is multipliers by which no pair has a score above its price, of a worth of at most most."""
    told = check_marks(study, marks)
    check_study_score(study, score)
    if not is_fraction(most):
        raise InvalidCount(most)
    check_many(told)
    if not are_multipliers_of(study, value):
        return False
    tops, bottom = over_one_bottom(value)
    total = worth_of(told, tops)
    if total is None or total * most[1] > most[0] * bottom:
        return False
    scores = pair_totals(study, score)
    prices = pair_totals(study, tops)
    return all([number * bottom <= price for number, price in zip(scores, prices)])


def surely_there(study, marks):
    """The sorted list of the names of the habits that are there in all shares that fit."""
    told = check_marks(study, marks)
    check_many(told)
    problem = settled(study, told)
    found = []
    for name in study.habits():
        problem.climb(pair_totals(study, {name: -1}))
        if problem.aim()[0] < 0:
            found.append(name)
        problem.drop_aim()
    return found
