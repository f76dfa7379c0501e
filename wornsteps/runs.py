"""Feet along a run in all crowds that fit, and short papers, which show that in none so many go along."""

from wornsteps.checks import FREE, Ready, check_count, check_run, is_jump
from wornsteps.crowds import Crowd
from wornsteps.errors import NotBetween
from wornsteps.fits import clash_by, does_fit_by, is_clash_by
from wornsteps.flows import kept_along, least_of, run_rows, ways_along
from wornsteps.network import Network
from wornsteps.scores import first_free, led_best, settled
from wornsteps.ways import total_on


def narrow_jump(told, run, many):
    """The first jump of a run whose high is less than a number; None if there is none."""
    for jump in zip(run, run[1:]):
        high = told.get(jump, FREE)[1]
        if high is not None and high < many:
            return jump
    return None


def raised(told, run, many):
    """The dict of marks with the low of each jump of a run raised to a number, which each of them lets."""
    more = {**told}
    for jump in zip(run, run[1:]):
        low, high = told.get(jump, FREE)
        more[jump] = (max(low, many), high)
    return more


def along_score(run):
    """The score of which the flow of a crowd has the more, the fewer feet have to go along a run."""
    score = {jump: -1 for jump in zip(run, run[1:])}
    for step in run[1:-1]:
        score[step] = 1
    return score


def forced(flow, run):
    """The least number of feet that go along a run in the crowds with a flow."""
    jumps, worn = run_rows(flow, run)
    return least_of(jumps, worn)


def least_along(marks, run, flow):
    """The least number of feet along a run in the crowds that fit; the flow is that of one of them."""
    if forced(flow, run) == 0:
        return 0
    score = along_score(run)
    if first_free(marks, score) is not None:
        return 0
    network, _ = led_best(marks.stair, marks.told(), score)
    return forced(network.flow(), run)


def greatest_along(network, run):
    """The greatest number of feet along a run in the crowds that fit; None if it is endless."""
    numbers = {thing: arc for arc, thing in enumerate(network.labels)}
    arcs = [numbers[jump] for jump in zip(run, run[1:])]
    many = None
    for arc in arcs:
        network.shift(arc, True, network.endless if many is None else max(0, many - network.through(arc)))
        if network.through(arc) <= network.total and (many is None or network.through(arc) < many):
            many = network.through(arc)
    return None if many is None else lowered(network, arcs, many)


def lowered(network, arcs, most):
    """The greatest number, up to most, to which the lows of all these arcs can be raised."""
    room = list(network.room)
    bounds = list(network.bounds)
    many = most
    while True:
        for arc in arcs:
            network.raise_low(arc, many)
        stuck = network.settle()
        if stuck is None:
            return many
        many = crossing_limit(network, stuck, bounds)
        network.room = list(room)
        network.bounds = list(bounds)
        network.excess = [0] * len(network.excess)


def crossing_limit(network, inside, bounds):
    """The greatest number to which the raised lows that lead into some nodes can be raised, by what leads out."""
    left = 0
    many = 0
    for arc in range(len(bounds)):
        leaves = network.fronts[2 * arc + 1] in inside
        if leaves != (network.fronts[2 * arc] in inside):
            if leaves:
                left += bounds[arc][1]
            elif network.bounds[arc][0] > bounds[arc][0]:
                many += 1
            else:
                left -= bounds[arc][0]
    return left // many


def along_range(marks, run):
    """The tuple (least, greatest) numbers of feet along the run in the crowds that fit; None is endless."""
    check_run(marks.stair, run)
    network = settled(marks, {})
    least = least_along(marks, run, network.flow())
    return least, greatest_along(network, run)


def spread(marks, told, flow, run, many):
    """A flow by raised lows, from one of them, in which at most so many feet have to go along a run; or None."""
    over = forced(flow, run) - many
    if over <= 0:
        return flow
    score = along_score(run)
    way = first_free(marks, score)
    if way is None:
        network, _ = led_best(marks.stair, raised(told, run, many), score)
        least = network.flow()
        return least if forced(least, run) <= many else None
    # As many feet more on the free way as take the number down to many, or below.
    times = -(-over // total_on(way, score))
    for jump in zip(way, way[1:]):
        flow[jump] = flow[jump] + times
    return flow


def raised_flow(marks, told, run, many):
    """The flow of a crowd that fits where the lows of a run are raised to a number; None if there is none."""
    if narrow_jump(told, run, many) is not None:
        return None
    more = raised(told, run, many)
    network = Network(marks.stair, more, more)
    return network.flow() if network.settle() is None else None


def crowd_of_run(stair, flow, run, many):
    """A Crowd with a flow, in which just so many feet go along a run, which the flow lets."""
    jumps, worn = run_rows(flow, run)
    return Crowd(stair, Ready(ways_along(stair, flow, run, kept_along(jumps, worn, many))))


def crowd_reaching(marks, run, many):
    """A Crowd that fits, in which at least so many feet go along a run; None if there is none."""
    flow = raised_flow(marks, marks.told(), run, many)
    if flow is None:
        return None
    return crowd_of_run(marks.stair, flow, run, min([flow[jump] for jump in zip(run, run[1:])]))


def can_reach(marks, run, many):
    """Whether in some crowd that fits at least so many feet go along a run."""
    told = marks.told()
    return narrow_jump(told, run, many) is None and does_fit_by(marks.stair, raised(told, run, many))


def crowd_on(marks, run, many):
    """A Crowd that fits, in which just so many feet go along the run."""
    check_run(marks.stair, run)
    check_count(many)
    told = marks.told()
    flow = raised_flow(marks, told, run, many)
    if flow is not None:
        flow = spread(marks, told, flow, run, many)
    if flow is None:
        least, greatest = along_range(marks, run)
        raise NotBetween(least, greatest)
    return crowd_of_run(marks.stair, flow, run, many)


def short_paper(marks, run, many):
    """What shows that in no crowd that fits so many feet go along the run; None if in some they do."""
    check_run(marks.stair, run)
    check_count(many)
    told = marks.told()
    jump = narrow_jump(told, run, many)
    if jump is not None:
        return ("high", jump)
    prices = clash_by(marks.stair, raised(told, run, many))
    return None if prices is None else ("clash", prices)


def is_short_paper(marks, run, many, value):
    """Whether any value is a short paper for the run and the number."""
    check_run(marks.stair, run)
    check_count(many)
    if not isinstance(value, tuple) or len(value) != 2 or not isinstance(value[0], str):
        return False
    told = marks.told()
    word, shown = value
    if word == "high":
        return is_jump(marks.stair.steps, shown) and is_narrow(told, run, many, shown)
    if word != "clash" or narrow_jump(told, run, many) is not None:
        return False
    return is_clash_by(marks.stair, raised(told, run, many), shown)


def is_narrow(told, run, many, jump):
    """Whether a jump is one of a run, and its high is less than a number."""
    return jump in list(zip(run, run[1:])) and narrow_jump(told, jump, many) is not None
