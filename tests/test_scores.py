"""Scores of crowds: greatest and least ones with their papers, free ways, ranges, and what holds in all crowds."""

import random
import unittest

from tests.samples import (chance_marks, chance_ways, large_stair, lets, plain_total, plain_ways, plain_wears,
                           plain_worth, small_stairs, some_feet)
from tests.test_fits import large_marks
from wornsteps.crowds import Crowd
from wornsteps.errors import Endless, NotBetween, NothingFits
from wornsteps.fits import does_fit
from wornsteps.marks import Marks
from wornsteps.scores import (are_prices, best_crowd, best_prices, crowd_with, free_way, greatest, idle, known, least,
                              only_crowd, range_of, sure)
from wornsteps.stairs import Stair

BIG = 10 ** 28


def chance_score(chance, stair, numbers):
    """A score of chance of some things."""
    things = chance.sample(stair.things(), chance.randint(0, len(stair.things())))
    return {thing: chance.choice(numbers) for thing in things}


def small_problems():
    """Rows of marks that let at most four feet, and the wears of all crowds that fit."""
    chance = random.Random(77)
    rows = []
    for stair in small_stairs(5):
        crowds = [(Crowd(stair, ways), plain_wears(stair, ways)) for ways in some_feet(stair, 4)]
        for _ in range(8):
            told = chance_marks(chance, stair, 2, 2, 1)
            low = chance.randint(0, 2)
            told["feet"] = (low, chance.randint(low, 4))
            rows.append((Marks(stair, told), [row for row in crowds if lets(told, row[1])]))
    return rows


def free_ways(marks, score):
    """All ways that are free, by the test's own sums."""
    return [way for way in plain_ways(marks.stair) if plain_total(marks.stair, score, way) > 0 and all(
        marks[thing][1] is None for thing in ["feet", *way[1:-1], *zip(way, way[1:])])]


def total_of(score, worn):
    return sum(number * worn[thing] for thing, number in score.items())


class Scores(unittest.TestCase):
    def test_small_marks_against_all_crowds(self):
        chance = random.Random(5)
        fitting = 0
        for marks, crowds in small_problems():
            for _ in range(3):
                score = chance_score(chance, marks.stair, [-3, -1, 0, 1, 2, 1000])
                totals = [total_of(score, worn) for _, worn in crowds]
                if not totals:
                    for action in (greatest, least, best_crowd, best_prices):
                        with self.assertRaises(NothingFits):
                            action(marks, score)
                else:
                    fitting += 1
                    self.assertEqual((greatest(marks, score), least(marks, score)), (max(totals), min(totals)))
                    self.check(marks, score)
        self.assertGreater(fitting, 100)

    def check(self, marks, score):
        """The greatest score by a crowd and by prices, which meet."""
        number = greatest(marks, score)
        crowd, prices = best_crowd(marks, score), best_prices(marks, score)
        worn = plain_wears(marks.stair, crowd.ways())
        self.assertTrue(lets(marks.told(), worn))
        self.assertLessEqual(len(crowd), 60)
        self.assertEqual(total_of(score, worn), number)
        self.assertEqual(plain_worth(marks.told(), prices), number)
        self.assertNotIn(0, prices.values())
        self.assertEqual(list(prices), [thing for thing in marks.stair.things() if thing in prices])
        for way in plain_ways(marks.stair):
            self.assertGreaterEqual(plain_total(marks.stair, prices, way), plain_total(marks.stair, score, way))
        self.assertEqual([are_prices(marks, score, number + more, prices) for more in (-1, 0, 1)], [False, True, True])
        turned = {thing: -score[thing] for thing in score}
        self.assertEqual(least(marks, turned), -number)
        self.assertEqual((greatest(marks, score), best_crowd(marks, score)), (number, crowd))
        self.assertEqual(best_prices(marks, score), prices)

    def test_large_marks(self):
        chance = random.Random(6)
        seen = []
        for marks in large_marks():
            for numbers in ([0, 1], [-1, 1], [-1000, -7, 3, 1000]):
                score = chance_score(chance, marks.stair, numbers)
                free = free_ways(marks, score)
                self.assertEqual(free_way(marks, score), free[0] if free else None)
                expected = NothingFits if not does_fit(marks) else Endless if free else None
                seen.append(expected)
                if expected:
                    for action in (greatest, best_crowd, best_prices):
                        with self.assertRaises(expected):
                            action(marks, score)
                    with self.assertRaises(expected):
                        least(marks, {thing: -score[thing] for thing in score})
                else:
                    self.check(marks, score)
        self.assertTrue(all(seen.count(kind) > 20 for kind in (NothingFits, Endless, None)))

    def test_prices_near_right_ones(self):
        chance = random.Random(7)
        seen = []
        for marks, crowds in small_problems():
            score = chance_score(chance, marks.stair, [-2, -1, 1, 2])
            prices = best_prices(marks, score) if crowds else {}
            for _ in range(6):
                thing = chance.choice(marks.stair.things())
                near = {**prices, thing: prices.get(thing, 0) + chance.choice([-1, 0, 1])}
                near = {key: price for key, price in near.items() if price}
                total = plain_worth(marks.told(), near)
                enough = all(plain_total(marks.stair, near, way) >= plain_total(marks.stair, score, way)
                             for way in plain_ways(marks.stair))
                for most in [-5, 0, 3] + ([] if total is None else [total - 1, total, total + 1]):
                    seen.append(total is not None and total <= most and enough)
                    self.assertIs(are_prices(marks, score, most, near), seen[-1])
        self.assertEqual(set(seen), {True, False})

    def test_free_ways_whether_or_not_a_crowd_fits(self):
        stair = Stair.of(2, 1, 2)
        self.assertEqual(free_way(Marks(stair, {(0, 1): (2, None), (0, 2): (1, 1)}), {"feet": 1}), (0, 1, 2, 3))
        self.assertEqual(free_way(Marks(stair, {2: (5, 5), 1: (9, None), (0, 2): (7, None)}), {1: 3}), (0, 1, 3))
        self.assertEqual(free_way(Marks(stair, {"feet": (0, BIG)}), {1: 3}), None)
        self.assertEqual(free_way(Marks(stair), {(0, 1): -2, 1: 1, 2: 1, "feet": 0}), (0, 2, 3))
        self.assertEqual(free_way(score={(0, 1): -2, 1: 1, 2: 1, (1, 3): 2}, marks=Marks(stair)), (0, 1, 3))
        self.assertEqual(free_way(Marks(Stair(1, [])), {"feet": 1}), None)
        self.assertFalse(does_fit(Marks(Stair(1, [(0, 2)]), {1: (1, 1)})))
        self.assertEqual(free_way(Marks(Stair(1, [(0, 2)]), {1: (1, 1)}), {"feet": 1}), (0, 2))
        with self.assertRaises(NothingFits):
            greatest(Marks(Stair(1, [(0, 2)]), {1: (1, 1)}), {"feet": 1})

    def test_examples_and_names(self):
        stair = Stair.of(2, 1, 2)
        marks = Marks(stair, {1: (3, 3), 2: (1, 1)})
        self.assertEqual(greatest(score={"feet": 1, (1, 2): 5}, marks=marks), 8)
        self.assertEqual((least(score={(0, 2): 1}, marks=marks), greatest(marks, {}), least(marks, {})), (0, 0, 0))
        self.assertIs(are_prices(marks, {(1, 3): -1}, -2, {1: -1, 2: 1}), True)
        self.assertIs(are_prices(value={2: 1}, most=1, score={(0, 2): 1}, marks=marks), True)
        self.assertIs(are_prices(marks, {(0, 2): 1}, 0, {2: 1}), False)
        self.assertEqual(best_crowd(score={"feet": 1}, marks=marks).feet, 4)
        self.assertIs(are_prices(marks, {"feet": 1}, 4, best_prices(score={"feet": 1}, marks=marks)), True)

    def test_prices_where_no_crowd_fits_and_without_a_way(self):
        none = Marks(Stair(1, [(0, 1)]), {1: (1, 1)})
        self.assertEqual([are_prices(none, {"feet": 1000}, most, {1: -5}) for most in (-6, -5, 0, BIG)],
                         [False, True, True, True])
        self.assertEqual([are_prices(none, {"feet": 1000}, most, {}) for most in (-1, 0)], [False, True])


class Ranges(unittest.TestCase):
    def test_small_marks_against_all_crowds(self):
        for marks, crowds in small_problems():
            things = marks.stair.things()
            if not crowds:
                for action in (sure, idle, known, only_crowd):
                    with self.assertRaises(NothingFits):
                        action(marks)
                for thing in things:
                    with self.assertRaises(NothingFits):
                        range_of(marks, thing)
                    with self.assertRaises(NothingFits):
                        crowd_with(marks, thing, 1)
            else:
                rows = {thing: [worn[thing] for _, worn in crowds] for thing in things}
                expected = [(min(row), max(row)) for row in rows.values()]
                self.assertEqual([range_of(marks, thing) for thing in things], expected)
                self.assertEqual(sure(marks), [thing for thing in things if min(rows[thing]) > 0])
                self.assertEqual(idle(marks), [thing for thing in things if max(rows[thing]) == 0])
                self.assertEqual(known(marks), [thing for thing in things if min(rows[thing]) == max(rows[thing])])
                self.assertEqual(only_crowd(marks), crowds[0][0] if len(crowds) == 1 else None)
                self.check(marks, things)

    def check(self, marks, things):
        """All numbers between the least and the greatest wear are met, and no others."""
        for thing in things:
            low, high = range_of(marks, thing)
            top = low + 7 if high is None else high
            for number in {low, top, (low + top) // 2, min(low + 1, top)}:
                crowd = crowd_with(marks, thing, number)
                worn = plain_wears(marks.stair, crowd.ways())
                self.assertTrue(lets(marks.told(), worn))
                self.assertEqual(worn[thing], number)
                self.assertLessEqual(len(crowd), 60)
            beyond = ([low - 1, 0] if low else []) + ([] if high is None else [high + 1, high + BIG])
            for number in beyond:
                with self.assertRaises(NotBetween) as caught:
                    crowd_with(marks, thing, number)
                self.assertEqual((caught.exception.least, caught.exception.greatest), (low, high))

    def test_large_marks(self):
        seen = set()
        for marks in large_marks():
            if does_fit(marks):
                things = marks.stair.things()
                rows = {thing: range_of(marks, thing) for thing in things}
                self.check(marks, things[::7])
                for thing in things[::5]:
                    low, high = rows[thing]
                    self.assertEqual(least(marks, {thing: 1}), low)
                    if high is None:
                        self.assertIsNotNone(free_way(marks, {thing: 1}))
                    else:
                        self.assertEqual(greatest(marks, {thing: 1}), high)
                    seen.add((low > 0, high is None, low == high))
                self.assertEqual(sure(marks), [thing for thing in things if rows[thing][0] > 0])
                self.assertEqual(idle(marks), [thing for thing in things if rows[thing][1] == 0])
                self.assertEqual(known(marks), [thing for thing in things if rows[thing][0] == rows[thing][1]])
        self.assertEqual(len(seen), 6)

    def test_examples_and_names(self):
        marks = Marks(Stair.of(2, 1, 2), {1: (3, 3), 2: (1, 1)})
        self.assertEqual((range_of(marks, "feet"), range_of(thing=(1, 3), marks=marks)), ((3, 4), (2, 3)))
        self.assertEqual(sure(marks), ["feet", 1, 2, (0, 1), (1, 3), (2, 3)])
        self.assertEqual((idle(marks=marks), known(marks=marks)), ([], [1, 2, (0, 1), (2, 3)]))
        only = Crowd(marks.stair, {(0, 1, 3): 3, (0, 2, 3): 1})
        self.assertEqual(crowd_with(number=4, thing="feet", marks=marks), only)
        nobody = marks.with_mark(2, 0, 0).with_mark(1, 4, 4)
        self.assertEqual((range_of(nobody, (0, 2)), range_of(nobody, "feet")), ((0, 0), (4, 4)))
        self.assertEqual(range_of(Marks(marks.stair), 1), (0, None))
        with self.assertRaises(NotBetween) as caught:
            crowd_with(Marks(marks.stair, {1: (2, None)}), "feet", 1)
        self.assertEqual((caught.exception.least, caught.exception.greatest), (2, None))

    def test_great_numbers_on_a_large_stair(self):
        chance = random.Random(9)
        ways = chance_ways(chance, large_stair(), 60, 10 ** 29)
        worn = plain_wears(large_stair(), ways)
        marks = Marks(large_stair(), {step: (worn[step], worn[step]) for step in range(1, 11)})
        for thing in large_stair().things():
            low, high = range_of(marks, thing)
            self.assertTrue(low <= worn[thing] and (high is None or worn[thing] <= high))
            crowd = crowd_with(marks, thing, worn[thing])
            self.assertEqual(plain_wears(large_stair(), crowd.ways())[thing], worn[thing])
        self.assertEqual(range_of(marks, (0, 11)), (0, None))

    def test_only_crowds(self):
        stair = Stair.of(3, 1, 2)
        cross = Crowd.of(stair, (0, 1, 2, 3, 4), (0, 2, 4))
        alike = Crowd(stair, {(0, 1, 2, 4): 5, (0, 2, 4): BIG})
        apart = Crowd(stair, {(0, 1, 3, 4): 2, (0, 2, 4): 3})
        for crowd, expected in ((cross, None), (alike, alike), (apart, apart), (Crowd(stair), Crowd(stair))):
            marks = Marks(stair, {thing: (wear, wear) for thing, wear in crowd.wears().items()})
            self.assertEqual(only_crowd(marks=marks), expected)
        self.assertIsNone(only_crowd(Marks(stair, {"feet": (1, 1)})))
        self.assertEqual(only_crowd(Marks(Stair(1, []))), Crowd(Stair(1, [])))


if __name__ == "__main__":
    unittest.main()
