"""Crowds that fit, clashes, prices and their worth, beside the test's own sums and all crowds of few feet."""

import random
import unittest

from tests.samples import (chance_marks, large_stair, lets, odd_values, plain_passed, plain_total, plain_ways,
                           plain_wears, plain_worth, small_stairs, some_feet, some_stairs)
from tests.test_crowds_wrong import Refusals
from tests.test_ways_wrong import stair as four_jumps
from tests.test_ways_wrong import wrong_things, wrong_ways
from wornsteps.crowds import Crowd
from wornsteps.errors import InvalidPrices, InvalidWay
from wornsteps.fits import cheapest, clash, does_fit, fitting, is_clash, plain_clash, price_of, worth
from wornsteps.marks import Marks
from wornsteps.stairs import Stair

BIG = 10 ** 29


def some_prices(chance, stair):
    """Prices of chance: none, of one thing, of some, of all, with ties and great numbers."""
    things = stair.things()
    rows = [{}, {"feet": 3}, {chance.choice(things): -BIG}, {thing: 1 for thing in things},
            {thing: -1 for thing in things}]
    for _ in range(4):
        chosen = chance.sample(things, chance.randint(1, len(things)))
        rows.append({thing: chance.choice([-2, -1, 1, 2, 3]) for thing in chosen})
    return rows


def is_plain_clash_of(marks, value):
    """Whether prices are a clash by the test's own prices of ways and worth."""
    total = plain_worth(marks.told(), value)
    ways = plain_ways(marks.stair)
    return total is not None and total < 0 and all(plain_total(marks.stair, value, way) >= 0 for way in ways)


def large_marks():
    """Marks of stairs of many sizes, with small and great numbers, endless highs, and dead things."""
    chance = random.Random(25)
    rows = []
    for stair in some_stairs() + [large_stair()] * 8:
        rows.append(Marks(stair))
        for unlike, most, slack in ((2, 3, 1), (20, 9, 2), (20, 10 ** 28, 10 ** 27)):
            rows.append(Marks(stair, chance_marks(chance, stair, unlike, most, slack)))
    return rows


class Prices(unittest.TestCase):
    def test_prices_of_ways(self):
        chance = random.Random(7)
        for stair in some_stairs():
            ways = plain_ways(stair)
            for prices in some_prices(chance, stair):
                for way in ways[:20]:
                    self.assertEqual(price_of(stair, way, prices), plain_total(stair, prices, way))
                lowest = min((plain_total(stair, prices, way) for way in ways), default=None)
                first = [way for way in ways if plain_total(stair, prices, way) == lowest][:1]
                self.assertEqual(cheapest(stair, prices), (lowest, first[0]) if first else None)
        self.assertIsNone(cheapest(prices={1: 1}, stair=Stair(1, [(0, 1)])))
        self.assertEqual(cheapest(Stair.of(2, 1, 2), {"feet": 5}), (5, (0, 1, 2, 3)))
        self.assertEqual(price_of(prices={"feet": 5, 1: -1}, way=(0, 1, 3), stair=Stair.of(2, 1, 2)), 4)

    def test_worth(self):
        chance = random.Random(8)
        seen = set()
        for marks in large_marks():
            for prices in some_prices(chance, marks.stair):
                expected = plain_worth(marks.told(), prices)
                seen.add(expected is None)
                self.assertEqual(worth(marks, prices), expected)
        self.assertEqual(seen, {True, False})
        marks = Marks(Stair.of(2, 1, 2), {1: (2, None), 2: (0, 3), "feet": (BIG, None)})
        self.assertEqual([worth(marks, {1: -2}), worth(marks, {1: 1}), worth(marks, {2: 5, 1: -1}),
                          worth(marks, {(0, 1): 1}), worth(marks, {(0, 1): -7}),
                          worth(prices={"feet": -1}, marks=marks), worth(marks, {})],
                         [-4, None, 13, None, 0, -BIG, 0])


class Fitting(unittest.TestCase):
    def check(self, marks):
        """Whether some crowd fits; it or the clashes are looked through."""
        before = repr(marks)
        crowd, found, plain = fitting(marks), clash(marks), plain_clash(marks)
        self.assertIs(does_fit(marks), crowd is not None)
        if crowd is not None:
            self.assertIs(type(crowd), Crowd)
            self.assertEqual((crowd.stair, found, plain), (marks.stair, None, None))
            self.assertTrue(lets(marks.told(), plain_wears(marks.stair, crowd.ways())))
            self.assertLessEqual(len(crowd), 60)
        else:
            for value in (found, plain):
                self.assertTrue(is_plain_clash_of(marks, value))
                self.assertIs(is_clash(marks, value), True)
                self.assertEqual(list(value), [thing for thing in marks.stair.things() if thing in value])
            self.assertLessEqual(set(plain.values()), {1, -1})
        self.assertEqual((fitting(marks), clash(marks), plain_clash(marks), repr(marks)), (crowd, found, plain, before))
        return crowd is not None

    def test_small_marks_against_all_crowds_of_few_feet(self):
        chance = random.Random(3)
        seen = []
        for stair in small_stairs(5):
            crowds = [plain_wears(stair, ways) for ways in some_feet(stair, 4)]
            for _ in range(12):
                told = chance_marks(chance, stair, 3, 2, 1)
                low = chance.randint(0, 3)
                told["feet"] = (low, chance.randint(low, 4))
                seen.append(any(lets(told, worn) for worn in crowds))
                self.assertIs(self.check(Marks(stair, told)), seen[-1])
        self.assertEqual(set(seen), {True, False})

    def test_large_marks(self):
        self.assertEqual({self.check(marks) for marks in large_marks()}, {True, False})

    def test_dead_things(self):
        stair = Stair(3, [(0, 1), (1, 4), (0, 2), (3, 4)])
        for thing in (2, 3, (0, 2), (3, 4)):
            self.assertIs(self.check(Marks(stair, {thing: (1, None)})), False)
            self.assertIs(self.check(Marks(stair, {thing: (0, 0), 1: (BIG, BIG)})), True)
        self.assertIs(self.check(Marks(Stair(1, [(0, 1)]), {(0, 1): (0, 5), "feet": (0, 5)})), True)
        self.assertIs(self.check(Marks(Stair(1, [(0, 1)]), {"feet": (1, 5)})), False)
        self.assertIs(self.check(Marks(Stair(1, []), {1: (BIG, None)})), False)

    def test_one_more_or_less(self):
        stair = Stair.of(3, 1, 2)
        ways = {(0, 1, 2, 4): BIG, (0, 1, 3, 4): BIG + 1, (0, 2, 3, 4): 5}
        worn = plain_wears(stair, ways)
        exact = Marks(stair, {thing: (wear, wear) for thing, wear in worn.items()})
        self.assertTrue(self.check(exact))
        for thing in stair.things():
            self.assertFalse(self.check(exact.with_mark(thing, worn[thing] + 1)))
            if worn[thing]:
                self.assertFalse(self.check(exact.with_mark(thing, 0, worn[thing] - 1)))
            self.assertTrue(self.check(exact.with_mark(thing, 0)))

    def test_examples_and_names(self):
        marks = Marks(Stair.of(2, 1, 2), {1: (3, 3), 2: (1, 1)})
        none = marks.with_mark((1, 3), 0, 1)
        self.assertEqual((does_fit(marks=marks), does_fit(none), fitting(marks=none)), (True, False, None))
        self.assertEqual((clash(marks=marks), plain_clash(marks=marks)), (None, None))
        right = {1: -1, 2: 1, (1, 3): 1}
        self.assertEqual([is_clash(none, right), worth(none, right)], [True, -1])
        self.assertIs(is_clash(value={1: -1}, marks=none), False)


class Clashes(unittest.TestCase):
    def test_bent_at_a_thing(self):
        chance = random.Random(5)
        seen = []
        for marks in large_marks():
            found = clash(marks)
            if found is not None and len(plain_ways(marks.stair)) < 100:
                for thing in chance.sample(marks.stair.things(), min(6, len(marks.stair.things()))):
                    for more in (-1, 1, -found.get(thing, 0)):
                        bent = {**found, thing: found.get(thing, 0) + more}
                        if not bent[thing]:
                            del bent[thing]
                        seen.append(is_plain_clash_of(marks, bent))
                        self.assertIs(is_clash(marks, bent), seen[-1])
                tripled = {thing: 3 * price for thing, price in found.items()}
                self.assertIs(is_clash(marks, tripled), True)
                self.assertIs(is_clash(marks, dict(reversed(list(found.items())))), True)
        self.assertEqual(set(seen), {True, False})

    def test_a_worth_of_0_is_none(self):
        stair = Stair.of(2, 1, 2)
        marks = Marks(stair, {1: (3, 3), (0, 1): (0, 3)})
        self.assertIs(is_clash(marks, {1: -1, (0, 1): 1}), False)
        self.assertIs(is_clash(marks.with_mark((0, 1), 0, 2), {1: -1, (0, 1): 1}), True)
        self.assertIs(is_clash(marks.with_mark((0, 1), 0, 2), {1: -1, (0, 1): 1, (1, 2): 1}), False)
        self.assertIs(is_clash(marks.with_mark((0, 1), 0, 2), {1: -2, (0, 1): 1}), False)

    def test_without_a_way(self):
        marks = Marks(Stair(1, [(0, 1)]), {1: (1, None)})
        self.assertEqual([is_clash(marks, value) for value in ({1: -1}, {1: -5}, {}, {1: 1}, {"feet": -1})],
                         [True, True, False, False, False])


class Wrong(Refusals):
    def wrong_prices(self):
        rows = [value for value in odd_values() if not isinstance(value, dict)] + [0, [], (), [(1, -1)], ((1, -1),)]
        for thing in wrong_things():
            try:
                rows.append({2: -1, thing: -1})
            except TypeError:
                pass  # Such a value can be no key.
        return rows + [{2: -1, "feet": price} for price in odd_values() + [0, [1], (1,), (1, 1)]] + [{1: 0}]

    def test_prices(self):
        marks = Marks(four_jumps(), {2: (1, 1)})
        for prices in self.wrong_prices():
            self.refused(InvalidPrices, prices, price_of, four_jumps(), (0, 1, 3), prices)
            self.refused(InvalidPrices, prices, cheapest, four_jumps(), prices)
            self.refused(InvalidPrices, prices, worth, marks, prices)
            self.assertIs(is_clash(marks, prices), False)
            self.assertIs(is_clash(Marks(Stair(2, [(0, 1), (0, 2)]), {2: (1, 1)}), prices), False)

    def test_ways(self):
        for way in wrong_ways():
            self.refused(InvalidWay, way, price_of, four_jumps(), way, None)

    def test_what_is_passed_stays(self):
        prices = {2: -1, "feet": 1}
        marks = Marks(four_jumps(), {2: (1, 1)})
        price_of(four_jumps(), (0, 1, 3), prices)
        cheapest(four_jumps(), prices)
        worth(marks, prices)
        is_clash(marks, prices)
        self.assertEqual((prices, list(prices), plain_passed(four_jumps(), (0, 1, 3))),
                         ({2: -1, "feet": 1}, [2, "feet"], ["feet", 1, (0, 1), (1, 3)]))


if __name__ == "__main__":
    unittest.main()
