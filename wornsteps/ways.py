"""Ways up a stair: their number and sequence, the things that they pass, and their scores."""

from wornsteps.checks import check_count, check_score, check_thing, check_way
from wornsteps.errors import NoSuch


def many_from(stair):
    """The list that tells, for each place, how many ways lead from there to the head."""
    many = [0] * stair.head + [1]
    for i, j in sorted(stair.jumps(), reverse=True):
        many[i] = many[i] + many[j]
    return many


def many_to(stair):
    """The list that tells, for each place, how many ways lead from the foot to there."""
    many = [1] + [0] * stair.head
    for i, j in stair.jumps():
        many[j] = many[j] + many[i]
    return many


def pick_way(stair, onward, number):
    """The way at a place that there is; onward is what many_from tells."""
    way = (0,)
    left = number
    # The jumps are sorted, so those from the place that is come to stand behind the one that led there.
    for i, j in stair.jumps():
        if i == way[-1] and left < onward[j]:
            way = way + (j,)
        elif i == way[-1]:
            left -= onward[j]
    return way


def many_ways(stair):
    """How many ways the stair has."""
    return many_from(stair)[0]


def all_ways(stair):
    """All ways of the stair, sorted."""
    onward = many_from(stair)
    for number in range(onward[0]):
        yield pick_way(stair, onward, number)


def way_at(stair, number):
    """The way at this place among the sorted ways."""
    check_count(number)
    onward = many_from(stair)
    if number >= onward[0]:
        raise NoSuch(number)
    return pick_way(stair, onward, number)


def place_of(stair, way):
    """The place of the way among the sorted ways."""
    check_way(stair, way)
    onward = many_from(stair)
    following = dict(zip(way, way[1:]))
    return sum([onward[j] for i, j in stair.jumps() if i in following and j < following[i]])


def things_on(way):
    """The list of the things that a way passes, in order."""
    return ["feet"] + list(way[1:-1]) + list(zip(way, way[1:]))


def passed(stair, way):
    """The list of the things that the way passes, in order."""
    check_way(stair, way)
    return things_on(way)


def passings(stair):
    """The dict from all things, in order, to how many ways pass each."""
    up = many_to(stair)
    onward = many_from(stair)
    many = {"feet": onward[0]}
    for step in range(1, stair.head):
        many[step] = up[step] * onward[step]
    for i, j in stair.jumps():
        many[(i, j)] = up[i] * onward[j]
    return many


def through(stair, thing):
    """How many ways pass the thing."""
    check_thing(stair, thing)
    return passings(stair)[thing]


def dead(stair):
    """The list of the things, in order, that no way passes."""
    many = passings(stair)
    return [thing for thing in many if many[thing] == 0]


def total_on(way, table):
    """The sum of what a dict from things to numbers has for the things that a way passes."""
    return sum([table.get(thing, 0) for thing in things_on(way)])


def totals_on(jumps, head, table):
    """For each place the greatest total of a way on from there, by what a dict has for things, and the next place.

    The jumps are sorted. The total is that of the jumps and of the steps behind the place; both are None without a
    way on.
    """
    most = [None] * head + [0]
    following = [None] * (head + 1)
    for jump in jumps[::-1]:
        i, j = jump
        if most[j] is not None:
            total = most[j] + table.get(j, 0) + table.get(jump, 0)
            # Lesser places j come later here; of equal totals the first way is wanted, so the later one.
            if most[i] is None or total >= most[i]:
                most[i] = total
                following[i] = j
    return most, following


def greatest_total(stair, table):
    """The greatest total of a way by a dict from things to numbers; None without a way."""
    most, _ = totals_on(stair.jumps(), stair.head, table)
    return None if most[0] is None else most[0] + table.get("feet", 0)


def greatest_way(stair, table):
    """The tuple (total, way) of the first way with the greatest total by the table; None without a way."""
    most, following = totals_on(stair.jumps(), stair.head, table)
    if most[0] is None:
        return None
    way = [0]
    while way[-1] != stair.head:
        way.append(following[way[-1]])
    return most[0] + table.get("feet", 0), tuple(way)


def turned(table):
    """The dict with all numbers turned about."""
    return {thing: -table[thing] for thing in table}


def cheapest_way(stair, table):
    """The tuple (total, way) of the first way with the least total by the table; None without a way."""
    found = greatest_way(stair, turned(table))
    return None if found is None else (-found[0], found[1])


def score_of(stair, way, score):
    """The score of the way."""
    check_way(stair, way)
    check_score(stair, score)
    return total_on(way, score)


def highest(stair, score):
    """The tuple (score, way) of the first way with the highest score; None without a way."""
    check_score(stair, score)
    return greatest_way(stair, score)


def lowest(stair, score):
    """The tuple (score, way) of the first way with the lowest score; None without a way."""
    check_score(stair, score)
    return cheapest_way(stair, score)
