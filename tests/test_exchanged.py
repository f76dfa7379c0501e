"""Exchanges in a crowd: what stays, how many can be exchanged, and what is refused."""

import unittest

from tests.samples import large_stair, odd_values, plain_passed, plain_ways, some_feet
from tests.test_crowds_wrong import Refusals
from tests.test_ways_wrong import wrong_things, wrong_ways
from wornsteps.crowds import Crowd
from wornsteps.errors import InvalidCount, InvalidThing, NotBetween, NotTogether, TooMany, UnknownWay
from wornsteps.stairs import Stair

BIG = 10 ** 20


def three():
    return Stair.of(3, 1, 2)


class Exchanging(unittest.TestCase):
    def test_each_exchange_of_small_crowds(self):
        done = 0
        for ways in some_feet(three(), 3):
            crowd = Crowd(three(), ways)
            for one in ways:
                for other in ways:
                    for step in set(one[1:-1]) & set(other[1:-1]):
                        greatest = ways[one] // 2 if one == other else min(ways[one], ways[other])
                        for many in range(1, greatest + 1):
                            self.check(crowd, one, other, step, many)
                            done += 1
                        with self.assertRaises(NotBetween) as caught:
                            crowd.exchanged(one, other, step, greatest + 1)
                        self.assertEqual((caught.exception.least, caught.exception.greatest), (1, greatest))
        self.assertGreater(done, 100)

    def check(self, crowd, one, other, step, many):
        first = one[:one.index(step)] + other[other.index(step):]
        second = other[:other.index(step)] + one[one.index(step):]
        expected = {way: 0 for way in plain_ways(crowd.stair)}
        for way, more in list(crowd.ways().items()) + [(one, -many), (other, -many), (first, many), (second, many)]:
            expected[way] += more
        behind = crowd.exchanged(one, other, step, many)
        self.assertEqual(behind.ways(), {way: number for way, number in expected.items() if number})
        self.assertEqual((behind.flow(), behind.wears()), (crowd.flow(), crowd.wears()))
        self.assertEqual(behind.exchanged(first, second, step, many), crowd)

    def test_a_way_with_itself_or_alike_at_a_side_changes_nothing(self):
        crowd = Crowd(three(), {(0, 1, 2, 4): 5, (0, 2, 4): 3, (0, 1, 2, 3, 4): 2})
        self.assertEqual(crowd.exchanged((0, 2, 4), (0, 2, 4), 2), crowd)
        self.assertEqual(crowd.exchanged((0, 1, 2, 4), (0, 2, 4), 2, 3), crowd)
        self.assertEqual(crowd.exchanged((0, 1, 2, 4), (0, 1, 2, 3, 4), 1, 2), crowd)
        self.assertEqual(crowd.exchanged((0, 1, 2, 4), (0, 1, 2, 3, 4), 2, 2), crowd)
        self.assertNotEqual(crowd.exchanged((0, 2, 4), (0, 1, 2, 3, 4), 2), crowd)

    def test_one_foot_unless_it_is_told_by_name_and_by_position(self):
        crowd = Crowd(three(), {(0, 2, 4): BIG, (0, 1, 2, 3, 4): BIG + 1})
        once = crowd.exchanged((0, 2, 4), (0, 1, 2, 3, 4), 2)
        self.assertEqual(once.ways(), {(0, 1, 2, 3, 4): BIG, (0, 1, 2, 4): 1, (0, 2, 3, 4): 1, (0, 2, 4): BIG - 1})
        self.assertEqual(crowd.exchanged(many=1, step=2, other=(0, 1, 2, 3, 4), one=(0, 2, 4)), once)
        all_of_one = crowd.exchanged((0, 2, 4), (0, 1, 2, 3, 4), 2, BIG)
        self.assertEqual(all_of_one.ways(), {(0, 1, 2, 3, 4): 1, (0, 1, 2, 4): BIG, (0, 2, 3, 4): BIG})
        self.assertEqual(crowd.feet, 2 * BIG + 1)

    def test_sixty_ways(self):
        stair = large_stair()
        one, other = (0, 1, 5, 6, 10, 11), (0, 2, 5, 9, 11)
        made = [(0, 1, 5, 9, 11), (0, 2, 5, 6, 10, 11)]
        rest = [way for way in plain_ways(stair) if way not in (one, other, *made)]
        full = Crowd(stair, {one: 1, other: 1, **{way: 1 for way in rest[:58]}})
        behind = full.exchanged(one, other, 5)
        self.assertEqual((len(full), len(behind), [behind[way] for way in made]), (60, 60, [1, 1]))

    def test_sixty_ways_and_one_more(self):
        stair = large_stair()
        one, other = (0, 1, 5, 6, 10, 11), (0, 2, 5, 9, 11)
        made = [(0, 1, 5, 9, 11), (0, 2, 5, 6, 10, 11)]
        rest = [way for way in plain_ways(stair) if way not in (one, other, *made)]
        full = Crowd(stair, {one: 2, other: 2, **{way: 1 for way in rest[:58]}})
        with self.assertRaises(TooMany) as caught:
            full.exchanged(one, other, 5)
        self.assertEqual((caught.exception.what, caught.exception.limit), ("ways", 60))
        self.assertEqual(len(full.exchanged(one, other, 5, 2)), 60)
        with self.assertRaises(NotBetween):
            full.exchanged(one, other, 5, 3)
        less = Crowd(stair, {one: 2, other: 2, **{way: 1 for way in rest[:56]}})
        self.assertEqual(len(less.exchanged(one, other, 5)), 60)


class Refused(Refusals):
    def test_ways_that_are_not_there(self):
        crowd = Crowd.of(three(), (0, 1, 2, 4), (0, 2, 4))
        for way in wrong_ways() + [(0, 1, 2, 3, 4), (0, 1, 3, 4)]:
            self.refused(UnknownWay, way, crowd.exchanged, way, (0, 1, 3, 4), 2)
            self.refused(UnknownWay, way, crowd.exchanged, (0, 2, 4), way, 9, 0)
            self.refused(UnknownWay, way, crowd.exchanged, way, None, 2, 1)

    def test_steps(self):
        crowd = Crowd.of(three(), (0, 1, 2, 4), (0, 2, 4))
        for step in [value for value in wrong_things() if value != 3] + [0, 4, "feet", (0, 1), (2, 4)]:
            self.refused(InvalidThing, step, crowd.exchanged, (0, 1, 2, 4), (0, 2, 4), step, 0)

    def test_numbers(self):
        crowd = Crowd.of(three(), (0, 1, 2, 4), (0, 2, 4))
        for many in odd_values() + [0, -1, [1], (1,)]:
            self.refused(InvalidCount, many, crowd.exchanged, (0, 1, 2, 4), (0, 2, 4), 3, many)

    def test_steps_that_are_not_on_both(self):
        crowd = Crowd.of(three(), (0, 1, 2, 4), (0, 2, 4), (0, 2, 3, 4))
        self.refused(NotTogether, 1, crowd.exchanged, (0, 1, 2, 4), (0, 2, 4), 1, 5)
        self.refused(NotTogether, 3, crowd.exchanged, (0, 1, 2, 4), (0, 2, 3, 4), 3)
        self.refused(NotTogether, 3, crowd.exchanged, (0, 1, 2, 4), (0, 1, 2, 4), 3)

    def test_too_many_feet(self):
        crowd = Crowd(three(), {(0, 1, 2, 4): 1, (0, 2, 4): 5})
        rows = [((0, 1, 2, 4), (0, 2, 4), 1), ((0, 2, 4), (0, 2, 4), 2), ((0, 1, 2, 4), (0, 1, 2, 4), 0)]
        for one, other, greatest in rows:
            with self.assertRaises(NotBetween) as caught:
                crowd.exchanged(one, other, 2, greatest + 1)
            self.assertEqual((caught.exception.least, caught.exception.greatest), (1, greatest))

    def test_things_passed_stay(self):
        crowd = Crowd(three(), {(0, 1, 2, 4): 1, (0, 2, 4): 5})
        before = repr(crowd)
        crowd.exchanged((0, 1, 2, 4), (0, 2, 4), 2)
        self.assertEqual(repr(crowd), before)
        self.assertEqual(plain_passed(three(), (0, 2, 4)), ["feet", 2, (0, 2), (2, 4)])


if __name__ == "__main__":
    unittest.main()
