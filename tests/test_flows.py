"""Flows: which values are flows, crowds with a flow, and how many feet go along a run."""

import random
import unittest

from tests.samples import (chance_ways, large_stair, odd_values, plain_passed, plain_wears, plain_ways, small_stairs,
                           some_feet, some_stairs)
from tests.test_crowds_wrong import Refusals, wrong_runs
from tests.test_ways_wrong import stair as four_jumps
from tests.test_ways_wrong import wrong_counts, wrong_things
from wornsteps.crowds import Crowd
from wornsteps.errors import InvalidCount, InvalidFlow, InvalidRun, NotBetween
from wornsteps.flows import along_greatest, along_least, crowd_along, is_flow, split
from wornsteps.stairs import Stair

BIG = 10 ** 20 + 3


def flow_of(stair, ways):
    """The flow of a dict of ways, by the test's own sums."""
    worn = plain_wears(stair, ways)
    return {jump: worn[jump] for jump in stair.jumps()}


def some_flows():
    """Rows of a stair and a flow: none, few and many ways, great numbers."""
    chance = random.Random(17)
    rows = []
    for stair in some_stairs() + [large_stair()] * 6:
        rows.append((stair, {}))
        for unlike, most in ((1, 1), (4, 3), (25, BIG), (60, 10 ** 28)):
            rows.append((stair, flow_of(stair, chance_ways(chance, stair, unlike, most))))
    return rows


def runs_of(way):
    """All runs that are parts of a way, and the way itself."""
    return [way[begin:end] for begin in range(len(way)) for end in range(begin + 2, len(way) + 1)]


def all_runs(stair):
    """All runs of a stair, also such as no way makes."""
    rows = [jump for jump in stair.jumps()]
    for run in rows:
        rows.extend(run + jump[1:] for jump in stair.jumps() if jump[0] == run[-1])
    return rows


def feet_along(ways, run):
    """How many feet go along a run, by a dict of ways."""
    jumps = set(zip(run, run[1:]))
    return sum(many for way, many in ways.items() if jumps <= set(zip(way, way[1:])))


class Flows(unittest.TestCase):
    def test_flows_and_flows_changed_at_one_jump(self):
        for stair, flow in some_flows():
            self.assertIs(is_flow(stair, flow), True)
            self.assertIs(is_flow(stair, {jump: many for jump, many in flow.items() if many}), True)
            for jump in stair.jumps()[::3]:
                changed = {**flow, jump: flow.get(jump, 0) + 1}
                self.assertIs(is_flow(stair, changed), jump == (0, stair.head))
            for way in plain_ways(stair)[:3]:
                along = dict(flow)
                for jump in zip(way, way[1:]):
                    along[jump] = along.get(jump, 0) + BIG
                self.assertIs(is_flow(value=along, stair=stair), True)

    def test_dead_ends_have_no_flow(self):
        stair = Stair(3, [(0, 1), (1, 4), (2, 3), (0, 2)])
        self.assertIs(is_flow(stair, {(0, 1): 1, (1, 4): 1, (2, 3): 0}), True)
        for wrong in ({(0, 2): 1, (2, 3): 1}, {(2, 3): 1}, {(0, 2): 1}, {(0, 1): 1}, {(1, 4): 1}):
            self.assertIs(is_flow(stair, wrong), False)


class Splitting(unittest.TestCase):
    def test_a_crowd_with_the_flow_and_few_ways(self):
        for stair, flow in some_flows():
            before = list(flow.items())
            crowd = split(stair, flow)
            self.assertIs(type(crowd), Crowd)
            ways = crowd.ways()
            self.assertEqual(flow_of(stair, ways), {jump: flow.get(jump, 0) for jump in stair.jumps()})
            self.assertLessEqual(set(ways), set(plain_ways(stair)))
            self.assertLessEqual(len(ways), len([jump for jump in flow if flow[jump]]))
            turned = {jump: flow[jump] for jump in reversed(list(flow)) if flow[jump]}
            self.assertEqual(split(flow=turned, stair=stair), crowd)
            self.assertEqual(list(flow.items()), before)
        self.assertGreater(max(len(split(*row)) for row in some_flows()), 20)


class Along(unittest.TestCase):
    def test_against_all_crowds_of_small_flows(self):
        for stair in small_stairs(7):
            by_flow = {}
            for ways in some_feet(stair, 3 if len(plain_ways(stair)) < 6 else 2):
                by_flow.setdefault(tuple(flow_of(stair, ways).items()), []).append(ways)
            for rows, crowds in by_flow.items():
                flow = dict(rows)
                for run in all_runs(stair):
                    numbers = sorted({feet_along(ways, run) for ways in crowds})
                    self.assertEqual(along_least(stair, flow, run), numbers[0])
                    self.assertEqual(along_greatest(stair, flow, run), numbers[-1])
                    self.assertEqual(numbers, list(range(numbers[0], numbers[-1] + 1)))
                    for many in numbers:
                        self.check(stair, flow, run, many)

    def check(self, stair, flow, run, many):
        crowd = crowd_along(stair, flow, run, many)
        ways = crowd.ways()
        self.assertEqual(flow_of(stair, ways), {jump: flow.get(jump, 0) for jump in stair.jumps()})
        self.assertEqual(feet_along(ways, run), many)
        self.assertLessEqual(len(ways), 60)

    def test_great_numbers_and_large_stairs(self):
        chance = random.Random(40)
        seen = set()
        for stair, flow in some_flows():
            for way in chance.sample(plain_ways(stair), min(3, len(plain_ways(stair)))):
                for run in chance.sample(runs_of(way), min(4, len(runs_of(way)))) + [way]:
                    worn = [sum(many for jump, many in flow.items() if jump[1] == step) for step in run[1:-1]]
                    jumps = [flow.get(jump, 0) for jump in zip(run, run[1:])]
                    low, high = max(0, sum(jumps) - sum(worn)), min(jumps)
                    self.assertEqual((along_least(stair, flow, run), along_greatest(stair, flow, run)), (low, high))
                    seen.add((low > 0, low < high))
                    for many in {low, high, (low + high) // 2, min(low + 1, high)}:
                        self.check(stair, flow, run, many)
                    for many in {low - 1, high + 1, high + BIG} - {-1}:
                        with self.assertRaises(NotBetween) as caught:
                            crowd_along(stair, flow, run, many)
                        self.assertEqual((caught.exception.least, caught.exception.greatest), (low, high))
        self.assertEqual(len(seen), 4)

    def test_examples_and_names(self):
        three = Stair.of(3, 1, 2)
        flow = Crowd.of(three, (0, 1, 2, 3, 4), (0, 2, 4)).flow()
        self.assertEqual((along_least(three, flow, (1, 2, 3)), along_greatest(three, flow, (1, 2, 3))), (0, 1))
        self.assertEqual(along_least(run=(1, 2), flow=flow, stair=three), 1)
        self.assertEqual(along_greatest(run=(1, 2), flow=flow, stair=three), 1)
        self.assertEqual(crowd_along(many=0, run=(1, 2, 3), flow=flow, stair=three),
                         Crowd.of(three, (0, 1, 2, 4), (0, 2, 3, 4)))
        self.assertEqual(plain_passed(three, (0, 2, 4)), ["feet", 2, (0, 2), (2, 4)])


class Wrong(Refusals):
    def wrong_flows(self):
        rows = [value for value in odd_values() if not isinstance(value, dict)] + [0, [], (), [((0, 1), 1)]]
        for thing in wrong_things() + ["feet", 1, 2]:
            try:
                rows.append({(0, 2): 1, (2, 3): 1, thing: 0})
            except TypeError:
                pass  # Such a value can be no key.
        rows += [{(0, 2): 1, (2, 3): number} for number in odd_values() + [-1, 0, 2, [1], (1,), 10 ** 29]]
        rows += [{(0, 1): number} for number in odd_values() + [-1, [1]]]
        return rows + [{(0, 1): -1, (1, 3): -1}, {(0, 1): True, (1, 3): True}, {(0, 1): 1, (1, 3): True}]

    def test_flows(self):
        for flow in self.wrong_flows():
            self.assertIs(is_flow(four_jumps(), flow), False)
            self.refused(InvalidFlow, flow, split, four_jumps(), flow)
            for action in (along_least, along_greatest):
                self.refused(InvalidFlow, flow, action, four_jumps(), flow, None)
            self.refused(InvalidFlow, flow, crowd_along, four_jumps(), flow, None, None)

    def test_runs_and_numbers(self):
        flow = {(0, 1): 1, (1, 3): 1}
        for run in wrong_runs():
            for action in (along_least, along_greatest):
                self.refused(InvalidRun, run, action, four_jumps(), flow, run)
            self.refused(InvalidRun, run, crowd_along, four_jumps(), flow, run, None)
        for many in wrong_counts():
            self.refused(InvalidCount, many, crowd_along, four_jumps(), flow, (0, 1), many)


if __name__ == "__main__":
    unittest.main()
