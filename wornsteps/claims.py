"""Claims about marks and stairs, whether they are true, and the papers that show it.

Each word of a claim has four functions: whether what stands behind the word is what it is about, whether the claim is
true, a paper of it, or None, and whether any value is a paper of it.
"""

from wornsteps.beside import are_alike, first_apart, is_own, own_ways
from wornsteps.blame import clash_beside, eased, eased_told, helps, touched
from wornsteps.checks import Ready, are_bounds, is_count, is_list, is_number, is_score, is_way
from wornsteps.crowds import Crowd
from wornsteps.errors import InvalidClaim
from wornsteps.fits import clash, crowd_of, does_fit, fitting, fitting_by, is_clash
from wornsteps.marks import Marks
from wornsteps.runs import can_reach, crowd_reaching, is_short_paper, short_paper
from wornsteps.scores import are_prices, first_free, led_best, score_in
from wornsteps.stairs import Stair
from wornsteps.ways import total_on


def is_of_marks(*parts):
    """Whether the parts of a tuple behind its word are Marks alone."""
    return len(parts) == 1 and isinstance(parts[0], Marks)


def is_of_score(*parts):
    """Whether they are Marks, a score of things of their stair, and an INTEGER."""
    if len(parts) != 3 or not isinstance(parts[0], Marks):
        return False
    return is_score(parts[0].stair, parts[1]) and is_number(parts[2])


def is_of_run(*parts):
    """Whether they are Marks, a run of their stair, and a COUNT."""
    if len(parts) != 3 or not isinstance(parts[0], Marks):
        return False
    return parts[0].stair.is_run(parts[1]) and is_count(parts[2])


def is_of_bounds(*parts):
    """Whether they are Marks and a list of bounds of things of their stair."""
    return len(parts) == 2 and isinstance(parts[0], Marks) and are_bounds(parts[0].stair, parts[1])


def is_of_stairs(*parts):
    """Whether they are two Stairs of as many steps."""
    if len(parts) != 2 or not isinstance(parts[0], Stair) or not isinstance(parts[1], Stair):
        return False
    return parts[0].steps == parts[1].steps


def some_fits(marks):
    """Whether some crowd fits."""
    return does_fit(marks)


def fitting_crowd(marks):
    """A Crowd that fits; None if there is none."""
    return fitting(marks)


def is_fitting(marks, value):
    """Whether any value is a Crowd that fits."""
    return isinstance(value, Crowd) and value.stair == marks.stair and marks(value)


def none_fits(marks):
    """Whether no crowd fits."""
    return not does_fit(marks)


def clash_of(marks):
    """A clash; None if some crowd fits."""
    return clash(marks)


def is_clash_of(marks, value):
    """Whether any value is a clash."""
    return is_clash(marks, value)


def does_reach(marks, score, number):
    """Whether some crowd that fits has at least a score."""
    if first_free(marks, score) is not None:
        return does_fit(marks)
    found = led_best(marks.stair, marks.told(), score)
    return found is not None and score_in(found[0], score) >= number


def crowd_score(crowd, score):
    """The score of a crowd."""
    return sum([total_on(way, score) * many for way, many in crowd.ways().items()])


def best_crowd_at(marks, score, number):
    """A Crowd that fits, and has the greatest score; None if there is none, or it has less than a number."""
    found = led_best(marks.stair, marks.told(), score)
    if found is None or score_in(found[0], score) < number:
        return None
    return crowd_of(marks.stair, found[0])


def crowd_at(marks, score, number):
    """A Crowd that fits, and has at least a score; None if there is none."""
    way = first_free(marks, score)
    if way is None:
        return best_crowd_at(marks, score, number)
    crowd = fitting(marks)
    lacking = 0 if crowd is None else number - crowd_score(crowd, score)
    if lacking <= 0:
        return crowd
    # As many feet more on the free way as make up for what lacks.
    return crowd + Crowd(marks.stair, Ready({way: -(-lacking // total_on(way, score))}))


def is_crowd_at(marks, score, number, value):
    """Whether any value is a Crowd that fits, and has at least a score."""
    return is_fitting(marks, value) and crowd_score(value, score) >= number


def best_below(marks, score, number):
    """What led_best tells, if some crowd fits, and none that fits has a score above a number; or None."""
    if first_free(marks, score) is not None:
        return None
    found = led_best(marks.stair, marks.told(), score)
    return None if found is None or score_in(found[0], score) > number else found


def does_stay(marks, score, number):
    """Whether some crowd fits, and none that fits has a score above a number."""
    return best_below(marks, score, number) is not None


def stay_paper(marks, score, number):
    """A tuple of a Crowd that fits and prices that show that no score is above a number; None if one is."""
    found = best_below(marks, score, number)
    if found is None:
        return None
    network, height = found
    return crowd_of(marks.stair, network), marks.stair.in_order(network.prices(score, height))


def is_stay_paper(marks, score, number, value):
    """Whether any value is such a tuple."""
    if not isinstance(value, tuple) or len(value) != 2:
        return False
    return is_fitting(marks, value[0]) and are_prices(marks, score, number, value[1])


def does_go(marks, run, number):
    """Whether in some crowd that fits at least so many feet go along a run."""
    return can_reach(marks, run, number)


def going_crowd(marks, run, number):
    """A Crowd that fits, in which at least so many feet go along a run; None if there is none."""
    return crowd_reaching(marks, run, number)


def is_going_crowd(marks, run, number, value):
    """Whether any value is such a Crowd."""
    return is_fitting(marks, value) and value.along(run) >= number


def goes_not(marks, run, number):
    """Whether in no crowd that fits so many feet go along a run."""
    return not can_reach(marks, run, number)


def going_paper(marks, run, number):
    """A short paper; None if in some crowd that fits so many feet go along a run."""
    return short_paper(marks, run, number)


def is_going_paper(marks, run, number, value):
    """Whether any value is a short paper, or tells a clash of the marks themselves."""
    if is_short_paper(marks, run, number, value):
        return True
    if not isinstance(value, tuple) or len(value) != 2 or not isinstance(value[0], str):
        return False
    return value[0] == "clash" and is_clash(marks, value[1])


def does_help(marks, bounds):
    """Whether the bounds help."""
    return helps(marks, bounds)


def eased_crowd(marks, bounds):
    """A Crowd that fits the eased marks; None if there is none."""
    return fitting_by(marks.stair, eased_told(marks.told(), bounds))


def is_eased_crowd(marks, bounds, value):
    """Whether any value is a Crowd that fits the eased marks."""
    return is_fitting(eased(marks, bounds), value)


def helps_not(marks, bounds):
    """Whether the bounds do not help."""
    return not helps(marks, bounds)


def clash_apart(marks, bounds):
    """A clash that touches none of the bounds; None if they help."""
    return clash_beside(marks, bounds)


def is_clash_apart(marks, bounds, value):
    """Whether any value is a clash that touches none of the bounds."""
    return is_clash(marks, value) and not any([bound in bounds for bound in touched(marks, value)])


def show_alike(one, other):
    """Whether both stairs show the same."""
    return are_alike(one, other)


def ways_alike(one, other):
    """The sorted list of the own ways of both stairs; None if they do not show the same."""
    return own_ways(one) if are_alike(one, other) else None


def are_ways_alike(one, other, value):
    """Whether any value is the sorted list of the own ways of both stairs."""
    if not is_list(value) or not all([is_way(one, way) for way in value]):
        return False
    return list(value) == own_ways(one) and list(value) == own_ways(other)


def show_apart(one, other):
    """Whether the stairs do not show the same."""
    return not are_alike(one, other)


def way_apart(one, other):
    """A way that is own to just one of both stairs; None if there is none."""
    return first_apart(one, other)


def is_own_to(stair, value):
    """Whether any value is an own way of the stair."""
    return is_way(stair, value) and is_own(stair, value)


def is_way_apart(one, other, value):
    """Whether any value is a way that is own to just one of both stairs."""
    return is_own_to(one, value) != is_own_to(other, value)


CLAIMS = {
    "fits": (is_of_marks, some_fits, fitting_crowd, is_fitting),
    "clash": (is_of_marks, none_fits, clash_of, is_clash_of),
    "reaches": (is_of_score, does_reach, crowd_at, is_crowd_at),
    "stays": (is_of_score, does_stay, stay_paper, is_stay_paper),
    "along": (is_of_run, does_go, going_crowd, is_going_crowd),
    "not along": (is_of_run, goes_not, going_paper, is_going_paper),
    "helps": (is_of_bounds, does_help, eased_crowd, is_eased_crowd),
    "no help": (is_of_bounds, helps_not, clash_apart, is_clash_apart),
    "same": (is_of_stairs, show_alike, ways_alike, are_ways_alike),
    "other": (is_of_stairs, show_apart, way_apart, is_way_apart),
}


def is_claim(value):
    """Whether any value is a claim."""
    if not isinstance(value, tuple) or len(value) == 0 or not isinstance(value[0], str) or value[0] not in CLAIMS:
        return False
    action = CLAIMS[value[0]][0]
    parts = value[1:]
    return action(*parts)


def check_claim(claim):
    """Refuse any value that is no claim."""
    if not is_claim(claim):
        raise InvalidClaim(claim)


def is_true(claim):
    """Whether the claim is true."""
    check_claim(claim)
    action = CLAIMS[claim[0]][1]
    parts = claim[1:]
    return action(*parts)


def paper_of(claim):
    """A paper of the claim; None if it is not true."""
    check_claim(claim)
    action = CLAIMS[claim[0]][2]
    parts = claim[1:]
    return action(*parts)


def is_paper(claim, value):
    """Whether any value is a paper of the claim."""
    check_claim(claim)
    action = CLAIMS[claim[0]][3]
    parts = claim[1:]
    return action(*parts, value)
