"""Crowds: made, read, and put together, beside plain sums."""

import random
import unittest

from tests.samples import chance_ways, large_stair, plain_passed, plain_wears, plain_ways, some_feet, some_stairs
from wornsteps.crowds import Crowd
from wornsteps.errors import OtherStair, TooMany
from wornsteps.stairs import Stair

BIG = 10 ** 20 + 7


def stair():
    return Stair.of(2, 1, 2)


def some_crowds():
    """Rows of a stair and a dict of ways: none, few and many feet, sixty ways, great numbers."""
    chance = random.Random(8)
    rows = []
    for sample in some_stairs():
        rows.append((sample, {}))
        for unlike, most in ((1, 1), (3, 2), (60, BIG)):
            rows.append((sample, chance_ways(chance, sample, unlike, most)))
    return rows


class Making(unittest.TestCase):
    def test_by_a_dict(self):
        for sample, ways in some_crowds():
            crowd = Crowd(sample, ways)
            self.assertEqual(crowd.ways(), ways)
            self.assertEqual(list(crowd.ways()), sorted(ways))
            self.assertEqual((crowd.stair, crowd.feet, len(crowd)), (sample, sum(ways.values()), len(ways)))

    def test_by_none(self):
        for crowd in (Crowd(stair()), Crowd(stair(), None), Crowd(stair(), {}), Crowd.of(stair()),
                      Crowd(ways=None, stair=stair())):
            self.assertEqual((crowd.ways(), crowd.feet, len(crowd), list(crowd)), ({}, 0, 0, []))

    def test_by_ways_one_behind_another(self):
        crowd = Crowd.of(stair(), (0, 2, 3), (0, 1, 3), (0, 2, 3))
        self.assertEqual(crowd.ways(), {(0, 1, 3): 1, (0, 2, 3): 2})
        self.assertIs(type(crowd), Crowd)
        for sample, ways in some_crowds():
            self.assertEqual(Crowd.of(sample, *ways), Crowd(sample, {way: 1 for way in ways}))
        self.assertEqual(Crowd.of(stair(), *[(0, 1, 3)] * 70)[(0, 1, 3)], 70)

    def test_sixty_ways_and_one_more(self):
        ways = {way: 2 for way in plain_ways(large_stair())[:61]}
        self.assertEqual(Crowd.MOST_WAYS, 60)
        first = dict(list(ways.items())[:60])
        self.assertEqual(len(Crowd(large_stair(), first)), 60)
        self.assertEqual(len(Crowd.of(large_stair(), *first)), 60)
        for action in (lambda: Crowd(large_stair(), ways), lambda: Crowd.of(large_stair(), *ways),
                       lambda: Crowd(large_stair(), first) + list(ways)[60],
                       lambda: Crowd(large_stair(), first) + Crowd(large_stair(), ways={list(ways)[60]: 1})):
            with self.assertRaises(TooMany) as caught:
                action()
            self.assertEqual((caught.exception.what, caught.exception.limit), ("ways", 60))
        self.assertEqual(len(Crowd(large_stair(), first) + Crowd(large_stair(), first) + list(ways)[0]), 60)

    def test_what_was_passed_and_returned_can_be_changed(self):
        ways = {(0, 1, 3): 1}
        crowd = Crowd(stair(), ways)
        ways[(0, 2, 3)] = 5
        for table in (crowd.ways(), crowd.wears(), crowd.flow()):
            table.clear()
        crowd.ways()[(0, 1, 3)] = 9
        self.assertEqual((crowd.ways(), crowd.feet, crowd.wears()["feet"]), ({(0, 1, 3): 1}, 1, 1))
        self.assertEqual(crowd.flow(), {(0, 1): 1, (0, 2): 0, (1, 2): 0, (1, 3): 1, (2, 3): 0})


class Reading(unittest.TestCase):
    def test_wear_of_each_thing(self):
        for sample, ways in some_crowds():
            crowd = Crowd(sample, ways)
            worn = plain_wears(sample, ways)
            self.assertEqual(crowd.wears(), worn)
            self.assertEqual(list(crowd.wears()), sample.things())
            self.assertEqual([crowd.wear(thing) for thing in sample.things()], list(worn.values()))
            self.assertEqual(crowd.flow(), {jump: worn[jump] for jump in sample.jumps()})
            self.assertEqual(list(crowd.flow()), sample.jumps())
        self.assertEqual(Crowd(stair()).wear(thing=1), 0)

    def test_along_each_run(self):
        for sample, ways in some_crowds()[:60]:
            crowd = Crowd(sample, ways)
            for way in plain_ways(sample)[:6]:
                for begin in range(len(way) - 1):
                    for end in range(begin + 2, len(way) + 1):
                        run = way[begin:end]
                        jumps = set(zip(run, run[1:]))
                        expected = sum(ways[other] for other in ways if jumps <= set(plain_passed(sample, other)))
                        self.assertEqual(crowd.along(run), expected)
        self.assertEqual(Crowd.of(stair(), (0, 1, 2, 3)).along(run=(1, 2, 3)), 1)

    def test_along_a_run_of_dead_ends(self):
        sample = Stair(3, [(0, 1), (1, 2), (1, 4), (3, 4)])
        crowd = Crowd.of(sample, (0, 1, 4))
        self.assertEqual([crowd.along(run) for run in ((0, 1, 2), (3, 4), (0, 1), (0, 1, 4))], [0, 0, 1, 1])

    def test_ways_that_are_in(self):
        for sample, ways in some_crowds():
            crowd = Crowd(sample, ways)
            self.assertEqual(list(crowd), sorted(ways))
            for way in plain_ways(sample)[:40]:
                self.assertEqual((way in crowd, crowd[way]), (way in ways, ways.get(way, 0)))

    def test_examples(self):
        crowd = Crowd.of(stair(), (0, 1, 2, 3), (0, 1, 3)) + (0, 2, 3)
        self.assertEqual((crowd.feet, crowd.along((0, 1, 2))), (3, 1))
        self.assertEqual(crowd.wears(), {"feet": 3, 1: 2, 2: 2, (0, 1): 2, (0, 2): 1, (1, 2): 1, (1, 3): 1, (2, 3): 2})


class Signs(unittest.TestCase):
    def test_a_way_more_and_a_way_less(self):
        for sample, ways in some_crowds():
            crowd = Crowd(sample, ways)
            for way in plain_ways(sample)[:5]:
                if len(ways) < 60 or way in ways:
                    more = crowd + way
                    self.assertEqual(more.ways(), {**ways, way: ways.get(way, 0) + 1})
                    self.assertEqual((more - way, more.feet, more.stair), (crowd, crowd.feet + 1, sample))
            for way in list(ways)[:5]:
                less = {other: many - (other == way) for other, many in ways.items()}
                self.assertEqual((crowd - way).ways(), {other: many for other, many in less.items() if many})
            self.assertEqual(crowd.ways(), ways)

    def test_both_together(self):
        rows = [Crowd(stair(), ways) for ways in some_feet(stair(), 3)]
        for one in rows:
            for other in rows:
                expected = {way: one[way] + other[way] for way in plain_ways(stair()) if one[way] + other[way]}
                self.assertEqual((one + other).ways(), expected)

    def test_times(self):
        for sample, ways in some_crowds():
            crowd = Crowd(sample, ways)
            for many in (1, 2, BIG):
                expected = Crowd(sample, {way: ways[way] * many for way in ways})
                self.assertEqual((crowd * many, many * crowd), (expected, expected))
            self.assertEqual((crowd * 0, 0 * crowd), (Crowd(sample), Crowd(sample)))
            self.assertEqual(crowd.ways(), ways)

    def test_part_of(self):
        rows = some_feet(stair(), 2)
        for one in rows:
            for other in rows:
                expected = all(many <= other.get(way, 0) for way, many in one.items())
                self.assertIs(Crowd(stair(), one).is_part_of(Crowd(stair(), other)), expected)
        self.assertIs(Crowd(stair()).is_part_of(other=Crowd(stair() - (0, 1))), False)

    def test_equal(self):
        rows = [Crowd(stair(), ways) for ways in some_feet(stair(), 2)] + [Crowd(stair() - (0, 1)), Crowd(Stair(1, []))]
        for k, one in enumerate(rows):
            self.assertEqual([one == other for other in rows], [at == k for at in range(len(rows))])
            self.assertEqual([one != other for other in rows], [at != k for at in range(len(rows))])
            for value in (None, one.ways(), list(one), 0, repr(one), one.stair):
                self.assertIs(one == value, False)
        one, other = {(0, 1, 3): 1, (0, 2, 3): 2}, {(0, 2, 3): 2, (0, 1, 3): 1}
        self.assertEqual(Crowd(stair(), one), Crowd(stair(), other))

    def test_text(self):
        self.assertEqual(repr(Crowd(Stair(1, [(0, 2)]), {(0, 2): 3})), "Crowd(Stair(1, [(0, 2)]), {(0, 2): 3})")
        self.assertEqual(repr(Crowd(stair(), {(0, 2, 3): 1, (0, 1, 3): BIG})),
                         f"Crowd({stair()!r}, {{(0, 1, 3): {BIG}, (0, 2, 3): 1}})")
        self.assertEqual(repr(Crowd(Stair(1, []))), "Crowd(Stair(1, []), {})")
        for sample, ways in some_crowds():
            self.assertEqual(eval(repr(Crowd(sample, ways))), Crowd(sample, ways))

    def test_crowds_of_other_stairs(self):
        one, other = Crowd.of(stair(), (0, 1, 3)), Crowd.of(stair() - (0, 2), (0, 1, 3))
        with self.assertRaises(OtherStair) as caught:
            one + other
        self.assertEqual((caught.exception.one, caught.exception.other), (stair(), stair() - (0, 2)))
        full = Crowd.of(large_stair(), *plain_ways(large_stair())[:60])
        with self.assertRaises(OtherStair):
            full + other


if __name__ == "__main__":
    unittest.main()
