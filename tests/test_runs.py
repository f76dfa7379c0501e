"""Feet along a run in all crowds that fit, crowds with just so many, and short papers."""

import itertools
import random
import unittest

from tests.samples import EqualToAll, all_jumps, lets, odd_values, plain_passed, plain_ways, plain_wears
from tests.test_crowds_wrong import Refusals, wrong_runs
from tests.test_fits import is_plain_clash_of, large_marks
from tests.test_scores import small_problems
from tests.test_ways_wrong import stair as four_jumps
from tests.test_ways_wrong import wrong_counts
from wornsteps.crowds import Crowd
from wornsteps.errors import InvalidCount, InvalidRun, NotBetween, NothingFits
from wornsteps.fits import does_fit
from wornsteps.marks import Marks
from wornsteps.runs import along_range, crowd_on, is_short_paper, short_paper
from wornsteps.scores import range_of
from wornsteps.stairs import Stair

BIG = 10 ** 28


def makes(way, run):
    """Whether a way makes all jumps of a run."""
    return set(zip(run, run[1:])) <= set(zip(way, way[1:]))


def plain_along(ways, run):
    return sum(many for way, many in ways.items() if makes(way, run))


def runs_of(stair):
    """All runs that are part of a way, whole ways too."""
    parts = {way[i:j] for way in plain_ways(stair) for i in range(len(way)) for j in range(i + 2, len(way) + 1)}
    return sorted(parts)


def raised_by(marks, run, many):
    """The dict of marks with the low of each jump of the run raised."""
    told = marks.told()
    for jump in zip(run, run[1:]):
        low, high = told.get(jump, (0, None))
        told[jump] = (max(low, many), high)
    return told


def is_right_paper(marks, run, many, value):
    """Whether a tuple of a word and what it shows is a short paper, by the test's own sums."""
    narrow = [jump for jump in zip(run, run[1:]) if marks[jump][1] is not None and marks[jump][1] < many]
    if narrow or value[0] == "high":
        return value[0] == "high" and value[1] in narrow
    return is_plain_clash_of(Marks(marks.stair, raised_by(marks, run, many)), value[1])


def is_endless(marks, run):
    """Whether some way of which all things are endless makes the run."""
    return any(all(marks[thing][1] is None for thing in plain_passed(marks.stair, way))
               for way in plain_ways(marks.stair) if makes(way, run))


class Small(unittest.TestCase):
    def test_against_all_crowds(self):
        chance = random.Random(51)
        seen = []
        for marks, crowds in small_problems():
            runs = runs_of(marks.stair)
            for run in chance.sample(runs, min(len(runs), 8)):
                met = sorted({plain_along(crowd.ways(), run) for crowd, _ in crowds})
                for many in range(6):
                    self.check_paper(marks, run, many, not met or many > met[-1])
                    if met:
                        self.check_crowd(marks, run, many, met)
                    else:
                        with self.assertRaises(NothingFits):
                            crowd_on(marks, run, many)
                if met:
                    seen.append(along_range(marks, run))
                    self.assertEqual(seen[-1], (met[0], met[-1]))
                    self.assertEqual(met, list(range(met[0], met[-1] + 1)))
                else:
                    with self.assertRaises(NothingFits):
                        along_range(marks, run)
        self.assertGreater(len({row for row in seen if row[0] > 0 and row[0] < row[1]}), 1)

    def check_crowd(self, marks, run, many, met):
        if many in met:
            crowd = crowd_on(marks, run, many)
            self.assertIs(type(crowd), Crowd)
            self.assertEqual(plain_along(crowd.ways(), run), many)
            self.assertTrue(lets(marks.told(), plain_wears(marks.stair, crowd.ways())))
        else:
            with self.assertRaises(NotBetween) as caught:
                crowd_on(marks, run, many)
            self.assertEqual((caught.exception.least, caught.exception.greatest), (met[0], met[-1]))

    def check_paper(self, marks, run, many, wanted):
        paper = short_paper(marks, run, many)
        self.assertIs(paper is not None, wanted)
        if wanted:
            self.assertIs(type(paper), tuple)
            self.assertTrue(is_right_paper(marks, run, many, paper))
            self.assertIs(is_short_paper(marks, run, many, paper), True)
            self.assertEqual(short_paper(marks, run, many), paper)


class Large(unittest.TestCase):
    def check(self, marks, run):
        """The range of a run, by crowds and by papers; whether it is endless, and whether it begins above 0."""
        low, high = along_range(marks, run)
        self.assertIs(high is None, is_endless(marks, run))
        top = low + BIG if high is None else high
        for many in {low, top, (low + top) // 2, min(low + 1, top)}:
            crowd = crowd_on(marks, run, many)
            self.assertEqual((plain_along(crowd.ways(), run), crowd.stair), (many, marks.stair))
            self.assertTrue(lets(marks.told(), plain_wears(marks.stair, crowd.ways())))
            self.assertLessEqual(len(crowd), 60)
            self.assertIsNone(short_paper(marks, run, many))
            self.assertEqual(crowd_on(marks, run, many), crowd)
        for many in ([low - 1, 0] if low else []) + ([] if high is None else [high + 1, high + BIG]):
            with self.assertRaises(NotBetween) as caught:
                crowd_on(marks, run, many)
            self.assertEqual((caught.exception.least, caught.exception.greatest), (low, high))
        if high is not None:
            paper = short_paper(marks, run, high + 1)
            self.assertTrue(is_right_paper(marks, run, high + 1, paper))
            self.assertIs(is_short_paper(marks, run, high + 1, paper), True)
        return high is None, low > 0

    def test_runs_of_all_lengths(self):
        chance = random.Random(52)
        seen = []
        for marks in large_marks():
            ways = plain_ways(marks.stair)
            begun = [(way, chance.randint(0, len(way) - 2)) for way in chance.sample(ways, min(3, len(ways)))]
            runs = {way[i:j] for way, i in begun for j in [chance.randint(i + 2, len(way)), len(way)]}
            for run in sorted(runs | set(ways[:1])):
                if does_fit(marks):
                    seen.append(self.check(marks, run))
                else:
                    for many in (0, 1, BIG):
                        self.assertIs(is_short_paper(marks, run, many, short_paper(marks, run, many)), True)
                    for action in (along_range, lambda marks, run: crowd_on(marks, run, 1)):
                        with self.assertRaises(NothingFits):
                            action(marks, run)
        self.assertEqual(len(set(seen)), 4)

    def test_no_more_than_the_places_of_a_run_let(self):
        # Three feet pass step 2, and go along (0, 2, 3) only as far as the other way to step 2 and on is not needed.
        marks = Marks(Stair.of(3, 1, 2), {2: (3, 3), (1, 2): (1, 2), (2, 4): (1, None)})
        self.assertEqual(along_range(marks, (0, 2, 3)), (0, 2))
        self.assertEqual(along_range(marks.with_mark((2, 4), 1, 1).with_mark((1, 2), 1, 1), (0, 2, 3)), (1, 2))
        self.assertEqual(along_range(marks, (0, 2)), (1, 2))
        self.assertEqual(along_range(Marks(Stair(2, [(0, 1), (1, 3)]), {(0, 1): (0, 5)}), (0, 1, 3)), (0, 5))

    def check_whole(self, marks, run, numbers):
        """The range of a run, each number of it and those beyond, and papers of their own."""
        self.assertEqual(along_range(marks, run), numbers)
        self.check(marks, run)
        low, high = numbers
        for many in range(low, low + 9 if high is None else high + 1):
            crowd = crowd_on(marks, run, many)
            self.assertEqual(plain_along(crowd.ways(), run), many)
            self.assertTrue(lets(marks.told(), plain_wears(marks.stair, crowd.ways())))

    def test_more_of_one_jump_is_less_of_another(self):
        # Feet from 1 to 5 at once leave fewer for (1, 3), and more of those who pass 3 for (3, 4).
        stair = Stair(5, [(0, 1), (0, 2), (1, 3), (2, 3), (1, 5), (3, 4), (3, 5), (4, 6), (5, 6)])
        for one, three, five in ((4, 4, 4), (5, 5, 5), (9, 8, 7), (3, 9, 8), (BIG, BIG, BIG), (2, 2, 2), (7, 5, 4)):
            marks = Marks(stair, {1: (one, one), 3: (three, three), 5: (five, five)})
            # With x feet on (1, 5), one - x make the first jump, and three - (five - x) the second one.
            least, most = max(0, five - three, one - three), min(one, five)
            middle = (one - three + five) // 2
            rows = [min(one - x, three - five + x) for x in {least, most, middle, middle + 1} if least <= x <= most]
            self.assertEqual(along_range(marks, (1, 3, 4))[1], max(rows))
            self.check(marks, (1, 3, 4))
        marks = Marks(stair, {1: (8, 8), 3: (8, 8), 5: (8, 8)})
        self.assertEqual([range_of(marks, jump) for jump in ((1, 3), (3, 4))], [(0, 8), (0, 8)])
        self.check_whole(marks, (1, 3, 4), (0, 4))
        # The lows of the run's jumps count, too: those that are above the number are not raised.
        self.check_whole(marks.with_mark((1, 3), 6), (1, 3, 4), (0, 2))
        self.check_whole(marks.with_mark((3, 4), 5, 7), (1, 3, 4), (0, 3))
        self.check_whole(marks.with_mark((1, 3), 0, 3), (1, 3, 4), (0, 3))

    def test_drawn_marks_where_more_of_one_jump_is_less_of_another(self):
        chance = random.Random(55)
        stair = Stair(5, [(0, 1), (0, 2), (1, 3), (2, 3), (1, 5), (3, 4), (3, 5), (4, 6), (5, 6)])
        # Four numbers tell all flows: those on (1, 3), (2, 3), (1, 5) and (3, 4).
        flows = []
        for first, second, third, fourth in itertools.product(range(6), repeat=4):
            wear = first + second
            if fourth <= wear:
                flows.append({1: first + third, 3: wear, 5: third + wear - fourth, (1, 3): first, (2, 3): second,
                              (1, 5): third, (3, 4): fourth, (3, 5): wear - fourth})
        seen = set()
        for _ in range(600):
            hidden = chance.choice(flows)
            told = {thing: (max(0, wear - chance.randint(0, 2)), wear + chance.randint(0, 2))
                    for thing, wear in hidden.items() if chance.random() < 0.8}
            told[1] = (hidden[1], min(5, hidden[1] + 1))
            told[3] = (max(0, hidden[3] - chance.randint(0, 4)), min(5, hidden[3]))
            if told[1][0] <= told[1][1] and told[3][0] <= told[3][1]:
                fitting = [flow for flow in flows if lets(told, flow)]
                most = max([min(flow[(1, 3)], flow[(3, 4)]) for flow in fitting], default=None)
                marks = Marks(stair, told)
                if most is None:
                    with self.assertRaises(NothingFits):
                        along_range(marks, (1, 3, 4))
                else:
                    least = min(max(0, flow[(1, 3)] + flow[(3, 4)] - flow[3]) for flow in fitting)
                    self.check_whole(marks, (1, 3, 4), (least, most))
                    seen.add(most < min(range_of(marks, jump)[1] for jump in ((1, 3), (3, 4))))
        self.assertEqual(seen, {True, False})

    def test_drawn_stairs_where_each_step_is_known(self):
        chance = random.Random(54)
        seen = set()
        for _ in range(60):
            jumps = [(i, j) for i, j in all_jumps(5) if j - i <= 3]
            stair = Stair(5, chance.sample(jumps, 10))
            ways = plain_ways(stair)
            if 3 <= len(ways) <= 9:
                worn = plain_wears(stair, {way: chance.randint(0, 2) for way in chance.sample(ways, 3)})
                marks = Marks(stair, {thing: (worn[thing], worn[thing]) for thing in ["feet", 1, 2, 3, 4, 5]})
                crowds = self.all_crowds(stair, marks.told(), worn["feet"])
                for run in [run for run in runs_of(stair) if len(run) > 2]:
                    met = sorted({plain_along(crowd, run) for crowd in crowds})
                    self.check_whole(marks, run, (met[0], met[-1]))
                    least_greatest = min(range_of(marks, jump)[1] for jump in zip(run, run[1:]))
                    seen.add((met[0] > 0, met[-1] < least_greatest))
        self.assertLessEqual({(True, False), (False, False)}, seen)

    def all_crowds(self, stair, told, feet):
        """All dicts of ways, of so many feet, that fit, found way by way."""
        rows = [{}]
        for way in plain_ways(stair):
            rows = [{**row, **({way: more} if more else {})} for row in rows
                    for more in range(feet + 1 - sum(row.values()))]
            rows = [row for row in rows if all(worn <= told.get(thing, (0, feet))[1]
                                               for thing, worn in plain_wears(stair, row).items())]
        return [row for row in rows if lets(told, plain_wears(stair, row))]

    def test_feet_that_come_so_that_fewer_must_go_along(self):
        # More feet on a free way that passes the inner steps otherwise; here one that passes one, or both of them.
        marks = Marks(Stair.of(3, 1, 2), {(1, 2): (3, None), (2, 3): (3, None)})
        self.check_whole(marks, (1, 2, 3), (0, None))
        self.check_whole(marks.with_mark((1, 2), BIG).with_mark((2, 3), BIG), (1, 2, 3), (0, None))
        wide = Marks(Stair.of(6, 1, 2), {(0, 2): (5, None), (2, 4): (5, None), (4, 6): (5, None)})
        self.check_whole(wide, (0, 2, 4, 6), (0, None))
        self.check_whole(wide.with_mark(3, 0, 0).with_mark(1, 0, 0), (0, 2, 4, 6), (5, None))
        # Not without an end: as many as the high of a step on these ways lets.
        self.check_whole(wide.with_mark(3, 0, 2), (0, 2, 4, 6), (0, None))
        self.check_whole(wide.with_mark(1, 0, 0).with_mark(3, 0, 2), (0, 2, 4, 6), (3, None))

    def test_a_run_that_no_way_makes(self):
        marks = Marks(Stair(3, [(0, 1), (1, 2), (2, 3), (0, 4)]), {"feet": (2, 5)})
        for run in ((1, 2), (1, 2, 3), (0, 1, 2, 3)):
            self.assertEqual(along_range(marks, run), (0, 0))
            self.assertEqual(crowd_on(marks, run, 0).along(run), 0)
            self.assertIs(is_short_paper(marks, run, 1, short_paper(marks, run, 1)), True)


class Papers(unittest.TestCase):
    def test_examples_and_names(self):
        stair = Stair.of(2, 1, 2)
        marks = Marks(stair, {1: (3, 3), 2: (1, 1)})
        none = marks.with_mark((1, 3), 0, 1)
        self.assertEqual([along_range(marks, (0, 1, 2)), along_range(run=(0, 1, 3), marks=marks)], [(0, 1), (2, 3)])
        self.assertIs(is_short_paper(marks, (0, 1, 2, 3), 2, ("clash", {2: 1, (1, 2): -1})), True)
        self.assertIs(is_short_paper(value=("high", (1, 3)), many=2, run=(1, 3), marks=none), True)
        self.assertEqual(crowd_on(many=2, run=(0, 1, 3), marks=marks).along((0, 1, 3)), 2)
        self.assertIsNone(short_paper(many=3, run=(0, 1, 3), marks=marks))

    def test_a_high_comes_ahead_of_a_clash(self):
        stair = Stair.of(2, 1, 2)
        marks = Marks(stair, {(0, 1): (0, 3), (1, 2): (0, 1), 1: (0, 1)})
        self.assertEqual(short_paper(marks, (0, 1, 2), 2), ("high", (1, 2)))
        self.assertEqual([is_short_paper(marks, (0, 1, 2), many, ("high", jump)) for many in (1, 2, 3, 4)
                          for jump in ((0, 1), (1, 2), (1, 3), (0, 2))],
                         [False] * 5 + [True] + [False] * 3 + [True] + [False] * 2 + [True, True, False, False])
        clash = {1: 1, (0, 1): -1}
        self.assertEqual([is_short_paper(marks, (0, 1), many, ("clash", clash)) for many in (1, 2, 3, 4)],
                         [False, True, True, False])
        self.assertIs(is_short_paper(marks, (0, 1, 2), 2, ("clash", clash)), False)

    def test_bent_at_a_thing(self):
        chance = random.Random(53)
        seen = []
        for marks in large_marks():
            ways = plain_ways(marks.stair)
            for run in [way[:3] for way in chance.sample(ways, min(2, len(ways)))] if len(ways) < 100 else []:
                for many in (1, 5, BIG):
                    paper = short_paper(marks, run, many)
                    if paper is not None and paper[0] == "clash":
                        for thing in chance.sample(marks.stair.things(), min(5, len(marks.stair.things()))):
                            bent = {**paper[1], thing: paper[1].get(thing, 0) + chance.choice([-1, 1])}
                            bent = {key: price for key, price in bent.items() if price}
                            seen.append(is_right_paper(marks, run, many, ("clash", bent)))
                            self.assertIs(is_short_paper(marks, run, many, ("clash", bent)), seen[-1])
                    elif paper is not None:
                        for jump in marks.stair.jumps()[:12]:
                            right = is_right_paper(marks, run, many, ("high", jump))
                            self.assertIs(is_short_paper(marks, run, many, ("high", jump)), right)
        self.assertEqual(set(seen), {True, False})

    def test_where_nothing_fits(self):
        none = Marks(Stair.of(2, 1, 2), {1: (3, 3), "feet": (0, 2)})
        paper = short_paper(none, (0, 2), 0)
        self.assertEqual((paper[0], is_plain_clash_of(none, paper[1])), ("clash", True))
        self.assertIs(is_short_paper(none, (0, 2), 0, ("clash", {1: -1, "feet": 1})), True)
        self.assertIs(is_short_paper(none.with_mark((0, 2), 0, 1), (0, 2), 1, ("clash", {1: -1, "feet": 1})), True)
        self.assertIs(is_short_paper(none.with_mark((0, 2), 0, 1), (0, 2), 2, ("clash", {1: -1, "feet": 1})), False)
        self.assertEqual(short_paper(none.with_mark((0, 2), 0, 1), (0, 2), 2), ("high", (0, 2)))

    def test_values_of_all_kinds(self):
        marks = Marks(four_jumps(), {(0, 1): (0, 3), 1: (0, 1)})
        right = {1: 1, (0, 1): -1}
        rows = odd_values() + [0, 1, "high", "clash", (), ("high",), ("clash",), right, ("clash", right, 1),
                               ["clash", right], ("Clash", right), ("high", right), ("clash", (0, 1)), (1, right),
                               (None, right), (EqualToAll(), right), ("clash", [(1, 1)]), ("clash", {True: 1}),
                               ("clash", {}), ("high", (0, 2)), ("high", (False, 1)), ("high", [0, 1]), ("high", 1),
                               ("high", EqualToAll()), ("high", "feet"), ["high", (0, 1)], ("clash", {**right, 5: 1})]
        rows += [("clash", value) for value in odd_values()] + [("high", value) for value in odd_values()]
        for value in rows:
            for many in (2, 4):
                self.assertIs(is_short_paper(marks, (0, 1, 3), many, value), False, value)
        self.assertIs(is_short_paper(marks, (0, 1, 3), 2, ("clash", right)), True)
        self.assertIs(is_short_paper(marks, (0, 1, 3), 4, ("high", (0, 1))), True)


class Wrong(Refusals):
    def both(self):
        return [Marks(four_jumps(), {1: (1, 4)}), Marks(four_jumps(), {1: (2, 2), "feet": (1, 1)})]

    def test_runs(self):
        for marks in self.both():
            for run in wrong_runs():
                self.refused(InvalidRun, run, along_range, marks, run)
                self.refused(InvalidRun, run, crowd_on, marks, run, None)
                self.refused(InvalidRun, run, short_paper, marks, run, -1)
                self.refused(InvalidRun, run, is_short_paper, marks, run, True, None)

    def test_numbers(self):
        for marks in self.both():
            for many in wrong_counts():
                self.refused(InvalidCount, many, crowd_on, marks, (0, 1), many)
                self.refused(InvalidCount, many, short_paper, marks, (0, 1), many)
                self.refused(InvalidCount, many, is_short_paper, marks, (0, 1), many, None)

    def test_nothing_fits_comes_behind_and_ahead_of_not_between(self):
        none = self.both()[1]
        for many in (0, 1, BIG):
            with self.assertRaises(NothingFits):
                crowd_on(none, (0, 1), many)
            with self.assertRaises(NothingFits):
                crowd_on(none.with_mark((0, 1), 0, 0), (0, 1), many)
        with self.assertRaises(NothingFits):
            along_range(none, (0, 2))

    def test_what_is_passed_stays(self):
        marks = self.both()[0]
        before = repr(marks)
        paper = ("clash", {1: 1, (0, 1): -1})
        is_short_paper(marks, (0, 1), 5, paper)
        crowd_on(marks, (0, 1), 3)
        short_paper(marks, (0, 1), 5)[1].clear()
        self.assertEqual((repr(marks), paper), (before, ("clash", {1: 1, (0, 1): -1})))
        self.assertEqual(short_paper(marks, (0, 1), 5), ("clash", {1: 1, (0, 1): -1}))


if __name__ == "__main__":
    unittest.main()
