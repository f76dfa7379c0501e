"""The arcs that feet go along, what each holds at least and at most, and how feet are led through all of them.

Each jump is an arc; so is each step that is told apart, from its own node to a second one; and the arc "feet" leads
from the head back to the foot. So what goes round is just what goes up the stair. Each arc has two edges: edge 2 k
takes one foot more along arc k, edge 2 k + 1 takes one back, and the room of an edge is how many it still takes.
"""

from heapq import heappop, heappush

from wornsteps.checks import FREE


def arcs_of(stair, apart):
    """The list of tuples (thing, node, node behind it), along the stair, and how many nodes there are."""
    leaving = [[] for _ in range(stair.head)]
    for jump in stair.jumps():
        leaving[jump[0]].append(jump)
    arcs = []
    nodes = stair.head + 1
    for place in range(stair.head):
        out = place
        if place in apart:
            out = nodes
            nodes += 1
            arcs.append((place, place, out))
        for jump in leaving[place]:
            arcs.append((jump, out, jump[1]))
    arcs.append(("feet", stair.head, 0))
    return arcs, nodes


def finite_total(told):
    """The sum of all numbers in a dict from things to marks."""
    return sum([low + (0 if high is None else high) for low, high in told.values()])


def lower(height, best, limit):
    """Change the heights so that all within a limit lies on the way down; best tells how far each node is."""
    for node in best:
        if best[node] < limit:
            height[node] += best[node] - limit


class Network:
    """What goes along each arc; it begins with what each has to hold, and so with too many or few feet at nodes."""

    def __init__(self, stair, told, apart):
        arcs, nodes = arcs_of(stair, apart)
        self.labels = [arc[0] for arc in arcs]
        self.fronts = [0] * (2 * len(arcs))
        self.room = [0] * (2 * len(arcs))
        self.edges = [[] for _ in range(nodes)]
        self.excess = [0] * nodes
        self.bounds = [told.get(arc[0], FREE) for arc in arcs]
        self.total = finite_total(told)
        # More than this is never needed, nor can be held back by what is finite: it stands for endless. There is room
        # for lows of all jumps of a run that are raised, each to no more than the total.
        self.endless = 16 * self.total + 16
        for k, (thing, tail, front) in enumerate(arcs):
            self.set_arc(k, tail, front, self.bounds[k])

    def set_arc(self, arc, tail, front, bound):
        """Let an arc lead from node to node, and hold what it has to hold."""
        low, high = bound
        self.fronts[2 * arc] = front
        self.fronts[2 * arc + 1] = tail
        self.room[2 * arc] = (self.endless if high is None else high) - low
        if high != low:
            self.edges[tail].append((2 * arc, front))
            self.edges[front].append((2 * arc + 1, tail))
        self.excess[front] += low
        self.excess[tail] -= low

    def raise_low(self, arc, least):
        """Let an arc hold at least so many, which it lets: what it lacks is too many at its front."""
        low, high = self.bounds[arc]
        if least <= low:
            return
        lacking = least - low - self.room[2 * arc + 1]
        self.bounds[arc] = (least, high)
        self.room[2 * arc + 1] = max(0, -lacking)
        if lacking > 0:
            self.room[2 * arc] -= lacking
            self.excess[self.fronts[2 * arc]] += lacking
            self.excess[self.fronts[2 * arc + 1]] -= lacking

    def through(self, arc):
        """How many feet go along an arc."""
        return self.bounds[arc][0] + self.room[2 * arc + 1]

    def search(self, start):
        """The nearest node with too few feet that feet can be led to, or None; and how each node was come to."""
        room = self.room
        excess = self.excess
        link = {start: -1}
        reached = [start]
        at = 0
        while at < len(reached):
            node = reached[at]
            at += 1
            for edge, front in self.edges[node]:
                if room[edge] and front not in link:
                    link[front] = edge
                    if excess[front] < 0:
                        return front, link
                    reached.append(front)
        return None, link

    def push(self, start, end, link):
        """Lead as many feet as can go from start to end, as it was come to."""
        path = []
        node = end
        while node != start:
            path.append(link[node])
            node = self.fronts[link[node] ^ 1]
        many = min(self.excess[start], -self.excess[end], min([self.room[edge] for edge in path]))
        for edge in path:
            self.room[edge] -= many
            self.room[edge ^ 1] += many
        self.excess[start] -= many
        self.excess[end] += many

    def drain(self, start):
        """Lead feet away from a node as long as it has too many; what could be come to, where they can not go on."""
        while self.excess[start] > 0:
            end, link = self.search(start)
            if end is None:
                return link
            self.push(start, end, link)
        return None

    def settle(self):
        """Lead all feet so that no node has too many or few: None, or the nodes that hold too many."""
        for node in range(len(self.edges)):
            stuck = self.drain(node)
            if stuck is not None:
                return stuck
        return None

    def shift(self, arc, forth, most):
        """Lead up to so many feet more round an arc, forth, or fewer, back; and how many it were."""
        edge = 2 * arc if forth else 2 * arc + 1
        start = self.fronts[edge]
        end = self.fronts[edge ^ 1]
        room = self.room[edge]
        back = self.room[edge ^ 1]
        wanted = min(room, most)
        # The arc itself is shut, so that what is led round it does not come back by it.
        self.room[edge] = 0
        self.room[edge ^ 1] = 0
        self.excess[start] = wanted
        self.excess[end] = -wanted
        self.drain(start)
        many = wanted - self.excess[start]
        self.excess[start] = 0
        self.excess[end] = 0
        self.room[edge] = room - many
        self.room[edge ^ 1] = back + many
        return many

    def can_shift(self, arc, forth):
        """Whether one foot more can be led round an arc, forth, or fewer, back."""
        edge = 2 * arc if forth else 2 * arc + 1
        goal = self.fronts[edge ^ 1]
        if not self.room[edge]:
            return False
        room = self.room
        reached = {self.fronts[edge]: True}
        waiting = [self.fronts[edge]]
        while waiting:
            node = waiting.pop()
            for other, front in self.edges[node]:
                if room[other] and front not in reached and other != edge ^ 1:
                    if front == goal:
                        return True
                    reached[front] = True
                    waiting.append(front)
        return False

    def range_at(self, arc):
        """The least and the greatest number of feet along an arc, None standing for endless."""
        self.shift(arc, False, self.endless)
        least = self.through(arc)
        self.shift(arc, True, self.endless)
        greatest = self.through(arc)
        return least, None if greatest > self.total else greatest

    def flow(self):
        """The dict from all jumps to how many feet make each."""
        made = {}
        for arc, thing in enumerate(self.labels):
            if isinstance(thing, tuple):
                made[thing] = self.through(arc)
        return made

    def crossing(self, inside):
        """The prices 1 of what leads out of some nodes, and -1 of what leads into them and has to hold something."""
        prices = {}
        for arc, thing in enumerate(self.labels):
            leaves = self.fronts[2 * arc + 1] in inside
            if leaves != (self.fronts[2 * arc] in inside):
                if leaves:
                    prices[thing] = 1
                elif self.bounds[arc][0] > 0:
                    prices[thing] = -1
        return prices

    def heights(self, costs):
        """A number for each node such that no endless arc leads to a node that is higher by more than it costs."""
        height = [0] * len(self.edges)
        arcs = [(self.fronts[2 * arc + 1], self.fronts[2 * arc], costs[2 * arc])
                for arc, (_, high) in enumerate(self.bounds) if high is None]
        lowered = True
        # No endless arcs lead round at a cost below 0, so this comes to its end.
        while lowered:
            lowered = False
            for tail, front, cost in arcs:
                if height[tail] + cost < height[front]:
                    height[front] = height[tail] + cost
                    lowered = True
        return height

    def fill(self, costs, height):
        """Let each arc that leads further down than it costs hold as many as it can."""
        for arc in range(len(self.labels)):
            tail, front = self.fronts[2 * arc + 1], self.fronts[2 * arc]
            many = self.room[2 * arc]
            if many and costs[2 * arc] + height[tail] < height[front]:
                self.room[2 * arc] = 0
                self.room[2 * arc + 1] = many
                self.excess[front] += many
                self.excess[tail] -= many

    def nearest(self, start, costs, height):
        """As search, at the least cost: the node, or None, the dict of how far each node is, and how it was come to."""
        room = self.room
        link = {}
        near = {start: 0}
        best = {}
        queue = [(0, start, -1)]
        while queue:
            cost, node, edge = heappop(queue)
            if node in best:
                continue
            best[node] = cost
            link[node] = edge
            if self.excess[node] < 0:
                return node, best, link
            base = cost + height[node]
            for edge, front in self.edges[node]:
                if room[edge] and front not in best:
                    further = base + costs[edge] - height[front]
                    if front not in near or further < near[front]:
                        near[front] = further
                        heappush(queue, (further, front, edge))
        return None, best, link

    def settle_cheap(self, costs):
        """As settle, at the least cost for each edge; the heights at the end, or None if some nodes hold too many."""
        height = self.heights(costs)
        self.fill(costs, height)
        for node in range(len(self.edges)):
            while self.excess[node] > 0:
                end, best, link = self.nearest(node, costs, height)
                if end is None:
                    return None
                lower(height, best, best[end])
                self.push(node, end, link)
        return height

    def prices(self, score, height):
        """The prices that show, by the heights of settle_cheap, that no score is greater."""
        found = {}
        for arc, thing in enumerate(self.labels):
            price = score.get(thing, 0) + height[self.fronts[2 * arc]] - height[self.fronts[2 * arc + 1]]
            # A price below 0 of what has to hold nothing is worth nothing, and makes ways no dearer.
            if price > 0 or price < 0 and self.bounds[arc][0] > 0:
                found[thing] = price
        return found
