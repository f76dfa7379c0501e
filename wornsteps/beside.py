"""What a stair shows, its own ways, and which stairs wear alike.

A way is not own exactly if its steps can be parted among two ways. While it is gone up, a place on it is LOOSE if the
step behind it can be come to otherwise, so that another place may follow this one. The foot is loose, as a second way
can always begin there. A place is loose, too, if a jump leads to the step behind it from a place ahead that is loose.
If one leads to the head from a place that is loose, ahead of the last step, and not the foot, then both ways end there.
Here some places together are told by the bits of a number.
"""

from wornsteps.checks import Ready, check_same_steps, check_way, is_count, is_list, is_step, is_way
from wornsteps.errors import InvalidCount
from wornsteps.fits import does_fit_by, fitting_by
from wornsteps.stairs import Stair


def are_wears(stair, value):
    """Whether any value is a dict from steps of the stair to COUNTS."""
    if not isinstance(value, dict):
        return False
    return all([is_step(stair, step) and is_count(many) for step, many in value.items()])


def exact_marks(stair, wears):
    """The dict of marks that let each step be worn just as often as the wears tell, which are checked."""
    if not are_wears(stair, wears):
        raise InvalidCount(wears)
    return {step: (wears.get(step, 0), wears.get(step, 0)) for step in range(1, stair.head)}


def can_show(stair, wears):
    """Whether some crowd wears each step just so often."""
    return does_fit_by(stair, exact_marks(stair, wears))


def showing(stair, wears):
    """A Crowd that wears each step just so often; None if there is none."""
    return fitting_by(stair, exact_marks(stair, wears))


def places_to(stair):
    """For each place the places from which a jump leads there, without the jump from the foot to the head."""
    into = [0] * (stair.head + 1)
    for i, j in stair.jumps():
        into[j] |= 1 << i
    into[stair.head] &= -2
    return into


class Onward:
    """How own ways of a stair go on: from a place, and from what is loose there, to what comes next."""

    def __init__(self, stair):
        self.top = stair.head
        self.into = places_to(stair)
        self.ahead = [[] for _ in range(stair.head)]
        for i, j in stair.jumps():
            self.ahead[i].append(j)
        far = [max(places, default=0) for places in self.ahead]
        # A loose place that no jump leads on from, beyond the place that is come to, makes no difference any more.
        self.useful = [sum([1 << i for i in range(j) if far[i] > j]) for j in range(stair.head + 1)]
        self.rows = {}

    def following(self, place, loose):
        """The list of the next places on own ways, each with what is loose there."""
        key = (place, loose)
        if key in self.rows:
            return self.rows[key]
        rows = []
        for j in self.ahead[place]:
            others = loose & self.into[j]
            if j == self.top:
                if place and not others:
                    rows.append((j, 0))
            else:
                further = (loose | 1 << place if others or not place else loose) & self.useful[j]
                if self.following(j, further):
                    rows.append((j, further))
        self.rows[key] = rows
        return rows

    def ends(self, place, loose, known):
        """The sorted list of how own ways go on behind a place; known is what is known of this so far."""
        if place == self.top:
            return [()]
        key = (place, loose)
        if key not in known:
            known[key] = [(j,) + end for j, further in self.following(place, loose)
                          for end in self.ends(j, further, known)]
        return known[key]

    def whole_ways(self):
        """The sorted list of the own ways."""
        return [(0,) + end for end in self.ends(0, 0, {})]

    def jumps_made(self):
        """The sorted list of the jumps that own ways make."""
        self.following(0, 0)
        return sorted({(key[0], row[0]) for key, rows in self.rows.items() for row in rows})


def own_ways(stair):
    """The sorted list of the own ways."""
    return Onward(stair).whole_ways()


def walked(following, place):
    """The way from the foot to a place, and on by a dict from places to the next ones."""
    way = (0, place)
    while way[-1] in following:
        way = way + (following[way[-1]],)
    return way


def halves(stair, way):
    """Two ways that share the steps of a way of one or more steps, and each have some; None if it is own."""
    into = places_to(stair)
    # For each loose place the one that can go on to the step behind it.
    instead = {}
    loose = 1
    for place, step in zip(way[1:], way[2:]):
        others = loose & into[step]
        if others:
            instead[place] = others.bit_length() - 1
            loose |= 1 << place
    if way[-2] not in instead:
        return None
    following = dict(zip(way, way[1:]))
    place = instead[way[-2]]
    step = way[-1]
    while place > 0:
        following[place], step = step, following[place]
        place = instead[place]
    return [walked(following, way[1]), walked(following, step)]


def is_own(stair, way):
    """Whether the way is own."""
    check_way(stair, way)
    return len(way) > 2 and halves(stair, way) is None


def parting(stair, way):
    """A parting of the way by own ways."""
    check_way(stair, way)
    waiting = [way] if len(way) > 2 else []
    done = []
    while waiting:
        part = waiting.pop()
        both = halves(stair, part)
        if both is None:
            done.append(part)
        else:
            waiting.extend(both)
    return sorted(done)


def are_parts(stair, way, value):
    """Whether any value is a list of ways, each with steps, that have together just those of a way, each once."""
    if not is_list(value):
        return False
    for part in value:
        if not is_way(stair, part) or len(part) < 3:
            return False
    return sorted([step for part in value for step in part[1:-1]]) == list(way[1:-1])


def is_parting(stair, way, value):
    """Whether any value is a parting of the way."""
    check_way(stair, way)
    return are_parts(stair, way, value) and list(value) == sorted(value)


def give(wanted, key, owner, asked):
    """Whether a key can have one of the places that it wants, where others may take other ones; owner is changed."""
    for place in wanted[key]:
        if place not in asked:
            asked[place] = True
            if place not in owner or give(wanted, owner[place], owner, asked):
                owner[place] = key
                return True
    return False


def can_give(wanted, owner):
    """Whether each key can have one of the places that it wants; some have one already, as owner tells."""
    given = {key: True for key in owner.values()}
    return all([key in given or give(wanted, key, owner, {}) for key in wanted])


class Shown:
    """What a stair shows of steps that are worn once."""

    def __init__(self, stair):
        self.made = {jump: True for jump in stair.jumps()}
        self.top = stair.head

    def has(self, way):
        """Whether the steps of a way of another stair, each worn once, are shown."""
        jumps = self.made
        if all([jump in jumps for jump in zip(way, way[1:])]):
            return True
        steps = way[1:-1]
        # A step that a foot may begin with, or end with, wants no other step ahead of it, or behind it.
        ahead = {step: [other for other in steps if (other, step) in jumps] for step in steps if (0, step) not in jumps}
        behind = {step: [other for other in steps if (step, other) in jumps]
                  for step in steps if (step, self.top) not in jumps}
        pairs = [pair for pair in zip(steps, steps[1:]) if pair in jumps]
        return can_give(ahead, {i: j for i, j in pairs if j in ahead}) and can_give(
            behind, {j: i for i, j in pairs if i in behind})


def first_lacking(one, other):
    """The first own way of one stair whose steps, each worn once, the other one does not show; None."""
    check_same_steps(one, other)
    onward = Onward(one)
    shown = Shown(other)
    if all([jump in shown.made for jump in onward.jumps_made()]):
        return None
    for way in onward.whole_ways():
        if not shown.has(way):
            return way
    return None


def shows_within(one, other):
    """Whether the other stair shows all that one stair shows."""
    return first_lacking(one, other) is None


def are_alike(one, other):
    """Whether both stairs show the same."""
    check_same_steps(one, other)
    # The stairs of these jumps show the same as they do, and so have the same own ways if the jumps are the same.
    return Onward(one).jumps_made() == Onward(other).jumps_made()


def first_apart(one, other):
    """The first way that is own to just one of both stairs; None if there is none."""
    check_same_steps(one, other)
    ways = own_ways(one)
    others = own_ways(other)
    for way, there in zip(ways, others):
        if way != there:
            return min(way, there)
    longer = ways[len(others):] + others[len(ways):]
    return longer[0] if longer else None


def bare(stair):
    """The bare Stair, which shows the same with the fewest jumps."""
    return Stair(stair.steps, Ready(Onward(stair).jumps_made()))
