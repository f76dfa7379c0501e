"""Flows: how many feet make each jump, crowds that have a flow, and exchanges between crowds of one flow."""

from wornsteps.checks import Ready, check_count, check_run, check_same_stair, is_count, is_list, is_step
from wornsteps.crowds import Crowd, exchange_rows, most_exchanged
from wornsteps.errors import InvalidFlow, NotBetween, TooMany

MOST_FEET = 60


def is_flow(stair, value):
    """Whether any value is a flow of the stair."""
    if not isinstance(value, dict):
        return False
    for many in value.values():
        if not is_count(many):
            return False
    if not stair.has_things(value):
        return False
    more = [0] * (stair.head + 1)
    for jump, many in value.items():
        if not isinstance(jump, tuple):
            return False
        more[jump[0]] -= many
        more[jump[1]] += many
    return not any(more[1:-1])


def check_flow(stair, flow):
    """Refuse any value that is no flow of the stair."""
    if not is_flow(stair, flow):
        raise InvalidFlow(flow)


def take(lots, many):
    """Take so many feet off the end of a list of tuples (way so far, feet), and tell them as such a list."""
    taken = []
    left = many
    while left > 0:
        way, there = lots.pop()
        part = min(there, left)
        if part < there:
            lots.append((way, there - part))
        taken.append((way, part))
        left -= part
    return taken


def lead(waiting, jump, lots):
    """Let lots make a jump, to where the list waiting keeps those that wait at its end."""
    waiting[jump[1]].extend([(way + (jump[1],), many) for way, many in lots])


def begun(stair, flow):
    """For each place the list of the lots that wait there, before any jump is made."""
    waiting = [[] for _ in range(stair.head + 1)]
    many = sum([flow[jump] for jump in flow if jump[0] == 0])
    waiting[0].append(((0,), many))
    return waiting


def ways_of_flow(stair, flow):
    """A dict of ways with a flow: no more ways than jumps that are not 0."""
    waiting = begun(stair, flow)
    # The jumps are sorted: when the first one of a place is reached, all feet that come there are there.
    for jump in stair.jumps():
        many = flow.get(jump, 0)
        if many:
            lead(waiting, jump, take(waiting[jump[0]], many))
    return dict(waiting[-1])


def split(stair, flow):
    """A crowd with the flow and at most as many ways as the flow has jumps that are not 0."""
    check_flow(stair, flow)
    return Crowd(stair, Ready(ways_of_flow(stair, flow)))


def run_rows(flow, run):
    """How many make each jump of a run, and how many pass each of its inner steps."""
    jumps = [flow.get(jump, 0) for jump in zip(run, run[1:])]
    worn = {step: 0 for step in run[1:-1]}
    for jump, many in flow.items():
        if jump[1] in worn:
            worn[jump[1]] += many
    return jumps, [worn[step] for step in run[1:-1]]


def least_of(jumps, worn):
    """The least number of feet along a run, by what run_rows tells."""
    return max(0, sum(jumps) - sum(worn))


def along_least(stair, flow, run):
    """The least number of feet that go along the run, in the crowds with the flow."""
    check_flow(stair, flow)
    check_run(stair, run)
    jumps, worn = run_rows(flow, run)
    return least_of(jumps, worn)


def along_greatest(stair, flow, run):
    """The greatest number of feet that go along the run, in the crowds with the flow."""
    check_flow(stair, flow)
    check_run(stair, run)
    return min([flow.get(jump, 0) for jump in zip(run, run[1:])])


def kept_along(jumps, worn, many):
    """How many of the feet that came along a run up to each inner step also make the next jump, so that many do all."""
    kept = []
    came = jumps[0]
    for jump, wear in zip(jumps[1:], worn):
        # As few as can be, where the others that pass the step can not make this jump all alone.
        came = max(many, came + jump - wear)
        kept.append(came)
    return kept


def ways_along(stair, flow, run, kept):
    """A dict of ways with a flow, in which so many of the feet that came along the run go on with it at each step."""
    waiting = begun(stair, flow)
    following = dict(zip(run[1:-1], run[2:]))
    going_on = dict(zip(run[1:-1], kept))
    for place in range(stair.head):
        jumps = [jump for jump in stair.jumps() if jump[0] == place and flow.get(jump, 0)]
        if place in following:
            # The jump of the run is made first, while each foot at the place can still make it.
            jump = (place, following[place])
            jumps = [other for other in jumps if other != jump]
            begin = run[:run.index(place) + 1]
            came = [lot for lot in waiting[place] if lot[0][-len(begin):] == begin]
            others = [lot for lot in waiting[place] if lot[0][-len(begin):] != begin]
            lead(waiting, jump, take(came, going_on[place]))
            lead(waiting, jump, take(others, flow.get(jump, 0) - going_on[place]))
            waiting[place] = others + came
        for jump in jumps:
            lead(waiting, jump, take(waiting[place], flow[jump]))
    return dict(waiting[-1])


def crowd_along(stair, flow, run, many):
    """A crowd with the flow, in which just so many feet go along the run."""
    check_flow(stair, flow)
    check_run(stair, run)
    check_count(many)
    jumps, worn = run_rows(flow, run)
    least = least_of(jumps, worn)
    if not least <= many <= min(jumps):
        raise NotBetween(least, min(jumps))
    return Crowd(stair, Ready(ways_along(stair, flow, run, kept_along(jumps, worn, many))))


def add_rows(table, rows):
    """Change a dict of numbers by rows of a key and how much more it has; keys with 0 are left out."""
    for key, more in rows:
        many = table.get(key, 0) + more
        if many:
            table[key] = many
        else:
            del table[key]


def forks(ways, step):
    """The dict from the beginnings of ways, to the place behind a step, to how many feet go so."""
    many = {}
    for way, feet in ways.items():
        if step in way:
            fork = way[:way.index(step) + 2]
            many[fork] = many.get(fork, 0) + feet
    return many


def gaps(ways, wanted, step):
    """The dict from forks at a step to how many feet too many go so; it has just those with too many or few."""
    more = forks(ways, step)
    for fork, many in forks(wanted, step).items():
        more[fork] = more.get(fork, 0) - many
    return {fork: more[fork] for fork in more if more[fork]}


def beginning(ways, fork):
    """The first one of some ways that begins as a fork tells."""
    for way in ways:
        if way[:len(fork)] == fork:
            return way
    return None


def step_exchanges(ways, wanted, step):
    """The exchanges at a step behind which as many feet as wanted go each fork; the ways are changed by them."""
    done = []
    gap = gaps(ways, wanted, step)
    while gap:
        lacking = [fork for fork in gap if gap[fork] < 0][0]
        spare = [fork for fork in gap if gap[fork] > 0]
        # As many as wanted come to the step so, and as many as wanted go on so: both are there.
        here = [fork for fork in spare if fork[:-1] == lacking[:-1]][0]
        there = [fork for fork in spare if fork[-1] == lacking[-1]][0]
        one = beginning(ways, here)
        other = beginning(ways, there)
        many = min(-gap[lacking], gap[here], gap[there], ways[one], ways[other])
        done.append((one, other, step, many))
        add_rows(ways, exchange_rows(one, other, step, many))
        turned = there[:-1] + here[-1:]
        add_rows(gap, [(here, -many), (lacking, many), (there, -many), (turned, many)])
    return done


def exchanges(one, other):
    """A list of exchanges that lead from the one crowd to the other; None unless they have the same flow."""
    check_same_stair(one.stair, other.stair)
    if one.feet > MOST_FEET or other.feet > MOST_FEET:
        raise TooMany("feet", MOST_FEET)
    if one.flow() != other.flow():
        return None
    done = []
    ways = one.ways()
    wanted = other.ways()
    for step in range(1, one.stair.head):
        done.extend(step_exchanges(ways, wanted, step))
    return done


def can_exchange(stair, ways, value):
    """Whether any value is a tuple (way, way, step, many), an exchange that can be done with some ways."""
    if not isinstance(value, tuple) or len(value) != 4:
        return False
    one, other, step, many = value
    for way in (one, other):
        if not stair.is_run(way) or way not in ways:
            return False
    if not is_step(stair, step) or step not in one or step not in other:
        return False
    return is_count(many) and 1 <= many <= most_exchanged(ways, one, other)


def are_exchanges(one, other, value):
    """Whether any value is a list of exchanges that lead from the one crowd to the other."""
    check_same_stair(one.stair, other.stair)
    if not is_list(value):
        return False
    ways = one.ways()
    for row in value:
        if not can_exchange(one.stair, ways, row):
            return False
        add_rows(ways, exchange_rows(*row))
        if len(ways) > Crowd.MOST_WAYS:
            return False
    return ways == other.ways()
