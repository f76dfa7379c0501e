"""Measured things, widths with two crowds and with prices, and the best thing to measure."""

import random
import unittest

from tests.samples import (EqualToAll, chance_marks, large_stair, lets, odd_values, plain_passed, plain_total,
                           plain_ways, plain_wears, plain_worth, some_stairs)
from tests.test_crowds_wrong import Refusals
from tests.test_fits import large_marks
from tests.test_scores import chance_score, small_problems, total_of
from tests.test_ways_wrong import stair as four_jumps
from tests.test_ways_wrong import wrong_counts, wrong_scores, wrong_things
from wornsteps.errors import (Endless, InvalidCount, InvalidPrices, InvalidScore, InvalidThing, NotBetween,
                              NothingFits)
from wornsteps.fits import does_fit
from wornsteps.marks import Marks
from wornsteps.measuring import (are_width_prices, best_measure, joint_worth, measured, two_crowds, width,
                                 width_prices)
from wornsteps.stairs import Stair

BIG = 10 ** 28


def plain_joint(marks, thing, upper, lower):
    """The joint worth, by the test's own sums; None without one."""
    first, second = ({key: price for key, price in prices.items() if key != thing} for prices in (upper, lower))
    price = upper.get(thing, 0) + lower.get(thing, 0)
    parts = [plain_worth(marks.told(), prices) for prices in (first, second, {thing: price} if price else {})]
    return None if None in parts else sum(parts)


def are_enough(stair, score, upper, lower):
    """Whether no way has a score above its price by upper, nor one below that by lower, turned about."""
    return all(-plain_total(stair, lower, way) <= plain_total(stair, score, way) <= plain_total(stair, upper, way)
               for way in plain_ways(stair))


def is_endless(marks, score, thing):
    """Whether a width is endless, by the endless ways."""
    rows = [(thing in plain_passed(marks.stair, way), plain_total(marks.stair, score, way))
            for way in plain_ways(marks.stair)
            if all(marks[passed][1] is None for passed in plain_passed(marks.stair, way))]
    through = {number for passes, number in rows if passes}
    return any(number for passes, number in rows if not passes) or len(through) > 1


class Widths(unittest.TestCase):
    def check(self, marks, score, thing):
        """A width by two crowds and by prices, which meet."""
        number = width(marks, score, thing)
        one, other = two_crowds(marks, score, thing)
        worn, there = plain_wears(marks.stair, one.ways()), plain_wears(marks.stair, other.ways())
        self.assertTrue(lets(marks.told(), worn) and lets(marks.told(), there))
        self.assertEqual((worn[thing], total_of(score, worn) - total_of(score, there)), (there[thing], number))
        self.assertLessEqual(max(len(one), len(other)), 60)
        upper, lower = prices = width_prices(marks, score, thing)
        self.assertIs(type(prices), tuple)
        self.assertNotIn(0, [*upper.values(), *lower.values()])
        self.assertEqual(plain_joint(marks, thing, upper, lower), number)
        self.assertEqual(joint_worth(marks, thing, upper, lower), number)
        if len(plain_ways(marks.stair)) < 60:
            self.assertTrue(are_enough(marks.stair, score, upper, lower))
        for most in (number - 1, number, number + 1, BIG * BIG):
            if most >= 0:
                self.assertIs(are_width_prices(marks, score, thing, most, prices), most >= number)
        self.assertEqual((two_crowds(marks, score, thing), width_prices(marks, score, thing)), ((one, other), prices))
        return number

    def test_small_marks_against_all_pairs_of_crowds(self):
        chance = random.Random(81)
        seen = set()
        for marks, crowds in small_problems():
            score = chance_score(chance, marks.stair, [-3, -1, 0, 1, 2, 1000])
            things = marks.stair.things()
            widths = []
            for thing in things:
                if crowds:
                    wide = max(total_of(score, one) - total_of(score, other) for _, one in crowds
                               for _, other in crowds if one[thing] == other[thing])
                    self.assertEqual(self.check(marks, score, thing), wide)
                    widths.append(wide)
                else:
                    for action in (width, two_crowds, width_prices):
                        with self.assertRaises(NothingFits):
                            action(marks, score, thing)
            if crowds:
                best = min(widths)
                self.assertEqual(best_measure(marks, score), (things[widths.index(best)], best))
                seen.add((best > 0, best < max(widths)))
            else:
                with self.assertRaises(NothingFits):
                    best_measure(marks, score)
        self.assertGreaterEqual(len(seen), 3)

    def test_large_marks(self):
        chance = random.Random(82)
        seen = []
        for marks in large_marks():
            things = marks.stair.things()
            for numbers in ([0, 1], [-1000, -7, 3, 1000], [1]):
                score = {"feet": 1} if numbers == [1] else chance_score(chance, marks.stair, numbers)
                for thing in chance.sample(things, min(4, len(things))):
                    endless = is_endless(marks, score, thing)
                    seen.append((does_fit(marks), endless))
                    if seen[-1] == (True, False):
                        self.check(marks, score, thing)
                    else:
                        for action in (width, two_crowds, width_prices):
                            with self.assertRaises(Endless if does_fit(marks) else NothingFits):
                                action(marks, score, thing)
        self.assertEqual(len(set(seen)), 4)

    def test_the_score_of_endless_ways_through_the_thing(self):
        # All endless ways have the same score, and pass the thing: their number makes no difference.
        stair = Stair.of(2, 1, 2)
        for thing, score, number in (("feet", {"feet": 5}, 0), (1, {1: 7, 2: 2, (1, 2): -2}, None),
                                     (1, {(0, 1): 3}, 0), ("feet", {"feet": -1, (0, 1): 1}, None)):
            marks = Marks(stair, {"feet": (3, None)})
            if number is None:
                with self.assertRaises(Endless):
                    width(marks, score, thing)
            else:
                self.assertEqual(self.check(marks, score, thing), number)
        bounded = Marks(stair, {2: (1, 4), 1: (2, None)})
        self.assertEqual(self.check(bounded, {"feet": 2}, 1), 8)
        self.assertEqual(self.check(bounded, {"feet": 2, 2: -3}, (1, 3)), 3)

    def test_examples_and_names(self):
        marks = Marks(Stair.of(2, 1, 2), {1: (3, 3), 2: (1, 1)})
        self.assertEqual([width(marks, {"feet": 1}, 1), width(thing=(0, 2), score={"feet": 1}, marks=marks)], [1, 0])
        self.assertEqual(best_measure(score={"feet": 1}, marks=marks), ("feet", 0))
        one, other = two_crowds(thing=1, score={"feet": 1}, marks=marks)
        self.assertEqual((one.feet, other.feet), (4, 3))
        upper, lower = width_prices(thing=1, score={"feet": 1}, marks=marks)
        self.assertEqual(joint_worth(lower=lower, upper=upper, thing=1, marks=marks), 1)
        value = ({1: 1, (0, 2): 1}, {1: -1, (0, 2): -1})
        self.assertIs(are_width_prices(value=value, most=0, thing=(0, 2), score={"feet": 1}, marks=marks), True)
        self.assertEqual(width(marks, {}, 1), 0)


class Best(unittest.TestCase):
    def test_the_first_of_the_least_widths(self):
        chance = random.Random(83)
        seen = set()
        for marks in large_marks() + [Marks(stair, {"feet": (0, 9)}) for stair in some_stairs()]:
            score = chance_score(chance, marks.stair, [0, 1, 1, -2])
            if does_fit(marks):
                rows = []
                for thing in marks.stair.things():
                    try:
                        rows.append((width(marks, score, thing), len(rows), thing))
                    except Endless:
                        seen.add("endless")
                expected = (min(rows)[2], min(rows)[0]) if rows else ("feet", None)
                seen.add(expected[0])
                self.assertEqual(best_measure(marks, score), expected)
            else:
                with self.assertRaises(NothingFits):
                    best_measure(marks, score)
        self.assertTrue(len(seen) > 5 and "endless" in seen)

    def test_all_widths_are_endless(self):
        stair = Stair.of(2, 1, 2)
        self.assertEqual(best_measure(Marks(stair), {1: 1, (0, 2): 2}), ("feet", None))
        with self.assertRaises(NothingFits):
            best_measure(Marks(stair - (0, 1), {1: (1, None)}), {2: 1, "feet": -3})
        self.assertEqual(best_measure(Marks(stair), {"feet": 2}), ("feet", 0))
        self.assertEqual(best_measure(Marks(Stair(1, [])), {"feet": 2}), ("feet", 0))
        self.assertEqual(best_measure(Marks(stair), {1: 1}), (1, 0))

    def test_great_numbers_on_a_large_stair(self):
        chance = random.Random(84)
        for _ in range(4):
            marks = Marks(large_stair(), {**chance_marks(chance, large_stair(), 20, BIG, 3), "feet": (0, 40 * BIG)})
            if does_fit(marks):
                score = chance_score(chance, large_stair(), [-1000, 1000])
                widths = [width(marks, score, thing) for thing in large_stair().things()]
                best = min(widths)
                self.assertEqual(best_measure(marks, score), (large_stair().things()[widths.index(best)], best))


class Measured(unittest.TestCase):
    def test_each_number_of_the_range_and_beyond(self):
        for marks, crowds in small_problems():
            for thing in marks.stair.things():
                worn = sorted({row[thing] for _, row in crowds})
                for wear in range(6):
                    if wear in worn:
                        other = measured(marks, thing, wear)
                        self.assertEqual(other, Marks(marks.stair, {**marks.told(), thing: (wear, wear)}))
                    else:
                        with self.assertRaises(NotBetween if worn else NothingFits) as caught:
                            measured(marks, thing, wear)
                        if worn:
                            found = caught.exception
                            self.assertEqual((found.least, found.greatest), (worn[0], worn[-1]))

    def test_endless_and_great_ones(self):
        marks = Marks(Stair.of(2, 1, 2), {1: (3, BIG), 2: (1, 1)})
        self.assertEqual(measured(wear=BIG, thing=1, marks=marks).told(), {1: (BIG, BIG), 2: (1, 1)})
        self.assertEqual(measured(marks, (1, 3), 5).told(), {1: (3, BIG), 2: (1, 1), (1, 3): (5, 5)})
        free = marks.with_mark(1, 3)
        self.assertEqual(measured(free, "feet", 100 * BIG)["feet"], (100 * BIG, 100 * BIG))
        with self.assertRaises(NotBetween) as caught:
            measured(free, "feet", 2)
        self.assertEqual((caught.exception.least, caught.exception.greatest), (3, None))
        with self.assertRaises(NotBetween) as caught:
            measured(marks, 1, BIG + 1)
        self.assertEqual((caught.exception.least, caught.exception.greatest), (3, BIG))
        self.assertEqual(marks.told(), {1: (3, BIG), 2: (1, 1)})


class JointWorth(unittest.TestCase):
    def test_by_the_tests_own_sums(self):
        chance = random.Random(85)
        seen = set()
        for marks in large_marks():
            things = marks.stair.things()
            for _ in range(6):
                thing = chance.choice(things)
                few = min(4, len(things))
                upper, lower = ({key: chance.choice([-3, -1, 1, 2]) for key in chance.sample(things, few)}
                                for _ in range(2))
                if chance.random() < 0.5:
                    upper[thing], lower[thing] = 2, chance.choice([-5, -2, 1])
                expected = plain_joint(marks, thing, upper, lower)
                seen.add(expected is None)
                self.assertEqual(joint_worth(marks, thing, upper, lower), expected)
        self.assertEqual(seen, {True, False})

    def test_either_one_upper(self):
        stair = Stair.of(2, 1, 2)
        marks = Marks(stair, {1: (2, None), 2: (1, 5)})
        self.assertEqual([joint_worth(marks, 1, {1: 3}, {1: -3}), joint_worth(marks, 1, {1: -3}, {1: 3}),
                          joint_worth(marks, 1, {1: 3}, {1: -4}), joint_worth(marks, 1, {1: -4}, {1: 3}),
                          joint_worth(marks, 1, {1: 3}, {1: -2}), joint_worth(marks, 2, {1: 3}, {1: -3}),
                          joint_worth(marks, 2, {2: 3}, {2: -1, 1: -1}), joint_worth(marks, 1, {2: 3}, {2: -1, 1: -1})],
                         [0, 0, -2, -2, None, None, 8, 12])
        none = Marks(stair, {1: (2, None), "feet": (1, 1)})
        self.assertEqual(joint_worth(none, 1, {}, {"feet": 2}), 2)

    def test_prices_near_width_prices(self):
        chance = random.Random(86)
        seen = set()
        for marks, crowds in small_problems():
            if crowds:
                score = chance_score(chance, marks.stair, [-1, 1, 2])
                thing = chance.choice(marks.stair.things())
                number = width(marks, score, thing)
                for at in range(2):
                    for key in marks.stair.things():
                        prices = list(width_prices(marks, score, thing))
                        bent = {**prices[at], key: prices[at].get(key, 0) + chance.choice([-1, 1])}
                        prices[at] = {key: price for key, price in bent.items() if price}
                        total = plain_joint(marks, thing, *prices)
                        right = total is not None and are_enough(marks.stair, score, *prices)
                        for most in (number, number + 1, number + 10):
                            expected = right and total <= most
                            seen.add(expected)
                            self.assertIs(are_width_prices(marks, score, thing, most, tuple(prices)), expected)
        self.assertEqual(seen, {True, False})

    def test_values_of_all_kinds(self):
        marks = Marks(four_jumps(), {1: (0, 3), 2: (0, 3)})
        right = ({1: 1}, {1: 1})
        for value in odd_values() + [0, (), right[:1], right + right[:1], list(right), [right], {1: 1}, ({1: 1}, None),
                                     (None, {1: 1}), ({True: 1}, {1: 1}), ({1: 1}, {1: True}), ({1: 1, 2: 0}, {1: 1}),
                                     ({1: 1}, [(1, 1)]), (EqualToAll(), {1: 1}), ({1: 1}, {5: 1}), ("1", "1"),
                                     (right, right), ({}, {1: 1}), ({1: 1}, {})]:
            self.assertIs(are_width_prices(marks, {1: 1, 2: -1}, 2, BIG, value), False, value)
        self.assertIs(are_width_prices(marks, {1: 1, 2: -1}, 2, BIG, ({1: 1}, {2: 1})), True)
        none = Marks(four_jumps(), {1: (2, 2), "feet": (1, 1)})
        self.assertIs(are_width_prices(none, {1: 1}, 2, 1, ({"feet": 1}, {1: -1})), True)
        self.assertIs(are_width_prices(none, {1: 1}, 2, 1, ({1: 1}, {})), False)


class Wrong(Refusals):
    def both(self):
        return [Marks(four_jumps(), {1: (1, 4)}), Marks(four_jumps(), {1: (2, 2), "feet": (1, 1)})]

    def test_scores(self):
        for marks in self.both():
            for score in wrong_scores():
                for action in (width, two_crowds, width_prices):
                    self.refused(InvalidScore, score, action, marks, score, None)
                self.refused(InvalidScore, score, are_width_prices, marks, score, None, None, None)
                self.refused(InvalidScore, score, best_measure, marks, score)

    def test_things(self):
        for marks in self.both():
            for thing in wrong_things():
                for action in (width, two_crowds, width_prices):
                    self.refused(InvalidThing, thing, action, marks, {}, thing)
                self.refused(InvalidThing, thing, are_width_prices, marks, {}, thing, -1, None)
                self.refused(InvalidThing, thing, measured, marks, thing, None)
                self.refused(InvalidThing, thing, joint_worth, marks, thing, None, None)

    def test_numbers(self):
        for marks in self.both():
            for number in wrong_counts():
                self.refused(InvalidCount, number, measured, marks, 1, number)
                self.refused(InvalidCount, number, are_width_prices, marks, {}, 1, number, None)

    def test_prices(self):
        rows = [value for value in odd_values() if not isinstance(value, dict)] + [
            0, [], (), {1: 0}, {True: 1}, {1: True}, {5: 1}, [(1, 1)], {2: 1, (False, 1): 1}]
        for marks in self.both():
            for prices in rows:
                self.refused(InvalidPrices, prices, joint_worth, marks, 1, prices, None)
                self.refused(InvalidPrices, prices, joint_worth, marks, 1, {1: 1}, prices)

    def test_nothing_fits_comes_behind_and_ahead_of_the_others(self):
        none = Marks(four_jumps(), {1: (1, None), "feet": (0, None), (0, 1): (0, 0)})
        for action in (width, two_crowds, width_prices):
            with self.assertRaises(NothingFits):
                action(none, {"feet": 1}, 2)
        for wear in (0, 1, BIG):
            with self.assertRaises(NothingFits):
                measured(none, 1, wear)
        self.assertEqual(joint_worth(none, 1, {1: -2}, {}), -2)

    def test_what_is_passed_stays(self):
        marks, score, value = self.both()[0], {1: 1, 2: -1, "feet": 0}, ({1: 1}, {1: -1})
        before = repr((marks, score, value))
        bounded = marks.with_mark("feet", 0, 5)
        for action in (width, two_crowds, width_prices):
            action(bounded, score, 1)
        best_measure(bounded, score)
        are_width_prices(bounded, score, 1, 5, value)
        joint_worth(bounded, 1, *value)
        width_prices(bounded, score, 1)[0].clear()
        self.assertEqual(repr((marks, score, value)), before)


if __name__ == "__main__":
    unittest.main()
