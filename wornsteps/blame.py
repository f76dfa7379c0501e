"""Bounds that must be given up if no crowd fits, the steps that were mended, and the moments of a step."""

from wornsteps.checks import FREE, check_bounds, check_count, check_prices, is_list, is_mark, is_step, is_way
from wornsteps.errors import InvalidMark, InvalidPrices, InvalidThing, InvalidWays, TooMany
from wornsteps.fits import clash_by, does_fit_by, is_clash_by
from wornsteps.marks import right_marks

MOST_CANDIDATES = 10


def eased_told(told, bounds):
    """The dict of marks in which some bounds are given up."""
    left = {**told}
    for side, thing in bounds:
        low, high = left.get(thing, FREE)
        left[thing] = (0, high) if side == "low" else (low, None)
    return left


def is_touched(prices, bound):
    """Whether a clash with these prices touches a bound."""
    side, thing = bound
    price = prices.get(thing, 0)
    return price < 0 if side == "low" else price > 0


def eased(marks, bounds):
    """The Marks in which the bounds are given up."""
    check_bounds(marks.stair, bounds)
    return right_marks(marks.stair, eased_told(marks.told(), bounds))


def helps(marks, bounds):
    """Whether some crowd fits where the bounds are given up."""
    check_bounds(marks.stair, bounds)
    return does_fit_by(marks.stair, eased_told(marks.told(), bounds))


def touched(marks, prices):
    """The list of the bounds, in the order of things, that a clash with these prices touches."""
    check_prices(marks.stair, prices)
    if not is_clash_by(marks.stair, marks.told(), prices):
        raise InvalidPrices(prices)
    return [("low" if prices[thing] < 0 else "high", thing) for thing in marks.stair.things() if thing in prices]


def clash_beside(marks, bounds):
    """A clash that touches none of the bounds; None if they help."""
    check_bounds(marks.stair, bounds)
    # Where a bound is given up, a plain clash has no price that would touch it.
    return clash_by(marks.stair, eased_told(marks.told(), bounds))


def bits_of(mask):
    """The list of the bits of a number, rising."""
    bits = []
    bit = 1
    while bit <= mask:
        if mask & bit:
            bits.append(bit)
        bit *= 2
    return bits


def chosen(row, mask):
    """The list of the elements of a row at whose places a number has bits."""
    return [value for at, value in enumerate(row) if mask >> at & 1]


def grown(rest, ahead, mask):
    """Each of some sets, with one bit more of a mask that it has nothing of; but none that has one ahead in it."""
    rows = [part | bit for part in rest for bit in bits_of(mask)]
    return [row for row in rows if not any([known & row == known for known in ahead])]


def least_masks(marks, candidates):
    """The numbers that have bits for the candidates of each set that helps while no smaller part of it does."""
    told = marks.told()
    helping = []
    # Each of these touches all clashes found so far, and has no candidate that is not needed for it.
    waiting = [0]
    while waiting:
        mask = waiting.pop()
        prices = clash_by(marks.stair, eased_told(told, chosen(candidates, mask)))
        if prices is None:
            helping.append(mask)
        else:
            needed = sum([1 << at for at, bound in enumerate(candidates) if is_touched(prices, bound)])
            ahead = [part for part in waiting if part & needed]
            rest = [mask] + [part for part in waiting if not part & needed]
            waiting = ahead + grown(rest, helping + ahead, needed)
    return helping


def check_candidates(stair, candidates):
    """Refuse any value that is no list of bounds, and lists of too many."""
    check_bounds(stair, candidates)
    if len(candidates) > MOST_CANDIDATES:
        raise TooMany("candidates", MOST_CANDIDATES)


def least_helps(marks, candidates):
    """The sorted list of the sets of candidates that help while no smaller part of them does."""
    check_candidates(marks.stair, candidates)
    places = list(range(len(candidates)))
    rows = sorted([chosen(places, mask) for mask in least_masks(marks, candidates)])
    return [[candidates[at] for at in row] for row in rows]


def sure_blamed(marks, candidates):
    """The list of the candidates that are in each set that helps; None if no set does."""
    check_candidates(marks.stair, candidates)
    told = marks.told()
    if not does_fit_by(marks.stair, eased_told(told, candidates)):
        return None
    # Just what all the others together can not do without is in each set that helps.
    return [bound for bound in candidates if not does_fit_by(
        marks.stair, eased_told(told, [other for other in candidates if other != bound]))]


def sets_of(steps, most):
    """The sorted list of the sorted lists of at most so many of some steps, which are sorted."""
    rows = [[]]
    for step in steps[::-1]:
        rows = [[]] + [[step] + row for row in rows if len(row) < most] + rows[1:]
    return rows


def mended(marks, most):
    """The sorted list of the lists of at most so many steps such that a crowd fits if just these were mended."""
    check_count(most)
    steps = list(range(1, marks.stair.head))
    needed = [chosen(steps, mask) for mask in least_masks(marks, [("high", step) for step in steps])]
    return [row for row in sets_of(steps, most) if any([all([step in row for step in part]) for part in needed])]


def are_all_ways(stair, value):
    """Whether any value is a list of ways of the stair."""
    return is_list(value) and all([is_way(stair, way) for way in value])


def worn_since(row, step):
    """The list of how often the step is worn behind each moment of a row of ways."""
    worn = [sum([1 for way in row if step in way])]
    for way in row:
        worn.append(worn[-1] - (1 if step in way else 0))
    return worn


def moments(stair, row, step, mark):
    """The list of the moments of a row of ways behind which the step is worn within the mark."""
    if not are_all_ways(stair, row):
        raise InvalidWays(row)
    if not is_step(stair, step):
        raise InvalidThing(step)
    if not is_mark(mark):
        raise InvalidMark(mark)
    low, high = mark
    worn = worn_since(row, step)
    return [moment for moment, wear in enumerate(worn) if low <= wear and (high is None or wear <= high)]
