"""Bounds that are given up, sets that help, mended steps and moments, beside the test's own looking."""

import itertools
import random
import unittest

from tests.samples import chance_marks, large_stair, odd_values, plain_ways, plain_wears, small_stairs
from tests.test_fits import is_plain_clash_of, large_marks
from tests.test_marks import wrong_marks
from tests.test_crowds_wrong import Refusals
from tests.test_ways_wrong import stair as four_jumps
from tests.test_ways_wrong import wrong_counts, wrong_things, wrong_ways
from wornsteps.blame import (clash_beside, eased, helps, least_helps, mended, moments, sure_blamed, touched)
from wornsteps.errors import (InvalidBounds, InvalidCount, InvalidMark, InvalidPrices, InvalidThing, InvalidWays,
                              TooMany)
from wornsteps.fits import clash, does_fit
from wornsteps.marks import Marks
from wornsteps.scores import greatest, range_of
from wornsteps.stairs import Stair

BIG = 10 ** 29


def bounds_of(stair):
    """All bounds of things of a stair."""
    return [(side, thing) for thing in stair.things() for side in ("low", "high")]


def eased_by(marks, bounds):
    """The Marks without some bounds, by the test's own way."""
    told = {thing: list(mark) for thing, mark in marks.told().items()}
    for side, thing in bounds:
        told.setdefault(thing, [0, None])[side == "high"] = 0 if side == "low" else None
    return Marks(marks.stair, {thing: tuple(mark) for thing, mark in told.items()})


def plain_touched(stair, prices):
    """The bounds that a clash with prices touches, in the order of things."""
    return [("low" if prices[thing] < 0 else "high", thing) for thing in stair.things() if thing in prices]


def some_problems(many, stairs):
    """Marks of stairs, most of which no crowd fits, and candidates of chance."""
    chance = random.Random(61)
    rows = []
    for stair in stairs:
        for _ in range(many):
            told = chance_marks(chance, stair, 3, 3, 1)
            if chance.random() < 0.7:
                low = chance.randint(0, 4)
                told["feet"] = (low, low + chance.randint(0, 2))
            marks = Marks(stair, told)
            among = [bound for bound in bounds_of(stair) if bound[1] in told] or bounds_of(stair)
            rows.append((marks, chance.sample(among, min(len(among), chance.randint(0, 6)))))
    return rows


class Easing(unittest.TestCase):
    def test_against_marks_that_the_test_eases(self):
        helping = []
        for marks, bounds in some_problems(8, small_stairs(5)):
            before = repr((marks, bounds))
            other = eased_by(marks, bounds)
            self.assertEqual(eased(marks, bounds), other)
            self.assertEqual(eased(marks, tuple(reversed(bounds))), other)
            self.assertIs(helps(marks, bounds), does_fit(other))
            for more in bounds_of(marks.stair):
                if helps(marks, bounds) and more not in bounds:
                    self.assertIs(helps(marks, bounds + [more]), True)
            helping.append((does_fit(marks), does_fit(other)))
            self.assertEqual(repr((marks, bounds)), before)
        self.assertEqual(set(helping), {(False, False), (False, True), (True, True)})

    def test_all_bounds_always_help(self):
        for marks in large_marks():
            self.assertIs(helps(marks, bounds_of(marks.stair)), True)
            self.assertEqual(eased(marks, bounds_of(marks.stair)), Marks(marks.stair))

    def test_names(self):
        marks = Marks(Stair.of(2, 1, 2), {1: (3, 4), 2: (BIG, None)})
        self.assertEqual(eased(bounds=[("low", 1), ("low", 2), ("high", "feet")], marks=marks).told(), {1: (0, 4)})
        self.assertIs(helps(bounds=[], marks=marks), True)
        self.assertEqual(eased(marks, [("high", 1)]).told(), {1: (3, None), 2: (BIG, None)})


class Clashes(unittest.TestCase):
    def test_what_a_clash_touches(self):
        for marks in large_marks():
            prices = clash(marks)
            if prices is not None:
                expected = plain_touched(marks.stair, prices)
                self.assertEqual(touched(marks, prices), expected)
                twice = {thing: 2 * price for thing, price in reversed(list(prices.items()))}
                self.assertEqual(touched(prices=twice, marks=marks), expected)

    def test_a_clash_beside_the_bounds(self):
        seen = []
        for marks, bounds in some_problems(6, small_stairs(5) + [large_stair()]):
            found = clash_beside(marks, bounds)
            seen.append(found is None)
            self.assertIs(found is None, helps(marks, bounds))
            if found is not None:
                self.assertTrue(is_plain_clash_of(marks, found))
                self.assertEqual([bound for bound in plain_touched(marks.stair, found) if bound in bounds], [])
                self.assertEqual(clash_beside(bounds=bounds, marks=marks), found)
        self.assertEqual(set(seen), {True, False})

    def test_examples(self):
        stair = Stair.of(2, 1, 2)
        none = Marks(stair, {1: (3, 3), 2: (1, 1), (1, 3): (0, 1)})
        self.assertEqual(touched(none, {1: -1, 2: 1, (1, 3): 1}), [("low", 1), ("high", 2), ("high", (1, 3))])
        self.assertIs(helps(none, [("high", 2)]), True)
        self.assertEqual(least_helps(none, [("low", 1), ("low", 2), ("high", 2)]), [[("low", 1)], [("high", 2)]])
        self.assertEqual(mended(none, 1), [[2]])


class Sets(unittest.TestCase):
    def check(self, marks, candidates):
        """All sets that help while no part does, and what is in all of them; how many there are."""
        places = range(len(candidates))
        parts = [part for many in range(len(candidates) + 1) for part in itertools.combinations(places, many)]
        good = [set(part) for part in parts if does_fit(eased_by(marks, [candidates[at] for at in part]))]
        rows = sorted(sorted(part) for part in good if not any(other < part for other in good))
        self.assertEqual(least_helps(marks, candidates), [[candidates[at] for at in row] for row in rows])
        sure = [bound for at, bound in enumerate(candidates) if all(at in row for row in rows)] if rows else None
        self.assertEqual(sure_blamed(marks, candidates), sure)
        return len(rows), max(map(len, rows), default=-1)

    def test_against_all_parts_of_the_candidates(self):
        seen = {self.check(marks, candidates) for marks, candidates in some_problems(10, small_stairs(5))}
        self.assertLessEqual({(0, -1), (1, 0), (1, 1), (2, 1), (1, 2)}, seen)

    def test_many_sets(self):
        # Each step has a jump that is worn too often, or too few feet: one of both bounds has to go for each of five.
        stair = Stair(5, [(0, k) for k in range(1, 6)] + [(k, 6) for k in range(1, 6)])
        marks = Marks(stair, {**{k: (0, 1) for k in range(1, 6)}, **{(0, k): (2, 2) for k in range(1, 6)}})
        candidates = [bound for k in range(1, 6) for bound in (("low", (0, k)), ("high", k))]
        self.assertEqual(self.check(marks, candidates), (32, 5))
        self.assertEqual(sure_blamed(marks, candidates[1:]), [("high", 1)])
        self.assertEqual(sure_blamed(marks, candidates[2:]), None)
        self.assertEqual(self.check(marks, list(reversed(candidates))), (32, 5))

    def test_where_the_marks_fit(self):
        marks = Marks(Stair.of(2, 1, 2), {1: (3, 3)})
        for candidates in ([], [("low", 1)], [("high", 2), ("low", 1)]):
            self.assertEqual((least_helps(marks, candidates), sure_blamed(marks, candidates)), ([[]], []))

    def test_where_nothing_helps(self):
        marks = Marks(Stair.of(2, 1, 2), {1: (3, 3), "feet": (2, 2)})
        for candidates in ([], [("low", "feet")], [("high", 1), ("high", 2)]):
            self.assertEqual((least_helps(marks, candidates), sure_blamed(marks, candidates)), ([], None))
        self.assertEqual(sure_blamed(candidates=(("high", "feet"),), marks=marks), [("high", "feet")])
        self.assertEqual(least_helps(candidates=(("high", "feet"),), marks=marks), [[("high", "feet")]])

    def test_ten_candidates_and_eleven(self):
        for marks in (Marks(large_stair(), {1: (3, 3), "feet": (2, 2)}), Marks(large_stair())):
            rows = bounds_of(large_stair())[:10]
            self.check(marks, rows)
            for candidates in (rows + [("low", 9)], bounds_of(large_stair())):
                for action in (least_helps, sure_blamed):
                    with self.assertRaises(TooMany) as caught:
                        action(marks, candidates)
                    self.assertEqual((caught.exception.what, caught.exception.limit), ("candidates", 10))
                    with self.assertRaises(InvalidBounds) as caught:
                        action(marks, candidates + candidates[:1])
                    self.assertEqual(caught.exception.position, len(candidates))

    def test_great_numbers_on_a_large_stair(self):
        chance = random.Random(62)
        for _ in range(6):
            marks = Marks(large_stair(), {**chance_marks(chance, large_stair(), 20, 10 ** 28, 3), "feet": (2, 9)})
            self.check(marks, chance.sample([bound for bound in bounds_of(large_stair()) if bound[1] in marks], 6))


class Mended(unittest.TestCase):
    def test_from_none_to_all_steps_and_more(self):
        chance = random.Random(63)
        seen = []
        for stair in small_stairs(5) + [Stair.of(5, 1, 2), Stair.of(5, 2, 3)]:
            for _ in range(4):
                marks = Marks(stair, {step: (0, chance.randint(0, 2)) for step in range(1, stair.head)}).with_mark(
                    "feet", chance.randint(0, 9))
                steps = range(1, stair.head)
                for most in [*range(stair.steps + 2), BIG]:
                    sets = [list(row) for many in range(min(most, stair.steps) + 1)
                            for row in itertools.combinations(steps, many)]
                    right = sorted(row for row in sets if does_fit(eased_by(marks, [("high", step) for step in row])))
                    self.assertEqual(mended(marks, most), right)
                    seen.append(len(right))
        self.assertGreater(len(set(seen)), 10)

    def test_all_sets_of_ten_steps(self):
        rows = mended(most=10, marks=Marks(large_stair()))
        self.assertEqual((len(rows), rows, rows[:3]), (1024, sorted(rows), [[], [1], [1, 2]]))
        self.assertEqual(mended(Marks(large_stair()), 0), [[]])
        self.assertEqual(mended(Marks(large_stair(), {"feet": (1, 1), 1: (2, 2)}), 10), [])

    def test_a_step_was_worn_more_than_it_shows(self):
        # The whole wear of the steps that were mended is at least their low, and can be more than their high.
        marks = Marks(Stair.of(2, 1, 2), {1: (0, 1), 2: (0, 2), "feet": (5, 5)})
        for row in mended(marks, 2):
            rest = eased(marks, [("high", step) for step in row])
            for step in row:
                self.assertGreaterEqual(range_of(rest, step)[1], marks[step][1])
        self.assertEqual(mended(marks, 2), [[1], [1, 2], [2]])
        self.assertEqual(greatest(eased(marks, [("high", 1)]), {1: 1}), 5)


class Moments(unittest.TestCase):
    def test_rows_of_ways(self):
        chance = random.Random(64)
        seen = set()
        for stair in small_stairs(5):
            ways = plain_ways(stair)
            for many in (0, 1, 2, 9):
                row = [chance.choice(ways) for _ in range(many)] if ways else []
                for step in range(1, stair.head):
                    for mark in ((0, None), (0, 0), (1, 1), (1, 3), (2, None), (5, 5)):
                        worn = [plain_wears(stair, {way: row[m:].count(way) for way in row[m:]})[step]
                                for m in range(len(row) + 1)]
                        right = [m for m, wear in enumerate(worn) if mark[0] <= wear <= (mark[1] or 0) or (
                            mark[1] is None and mark[0] <= wear)]
                        self.assertEqual(moments(stair, row, step, mark), right)
                        self.assertEqual(moments(stair, tuple(row), step, mark), right)
                        seen.add(len(right))
        self.assertLessEqual({0, 1, 2, 3, 10}, seen)

    def test_examples_and_names(self):
        stair = Stair.of(2, 1, 2)
        row = [(0, 1, 3), (0, 2, 3), (0, 1, 3)]
        self.assertEqual(moments(stair, row, 1, (1, 1)), [1, 2])
        self.assertEqual(moments(mark=(0, 0), step=2, row=row, stair=stair), [2, 3])
        self.assertEqual([moments(stair, [], 1, (0, None)), moments(stair, [], 1, (1, None))], [[0], []])
        self.assertEqual(row, [(0, 1, 3), (0, 2, 3), (0, 1, 3)])

    def test_ways_behind_the_moment(self):
        # Turned about, this row has other moments, so what goes ahead of one is not taken for what goes behind.
        stair = Stair.of(2, 1, 2)
        row = [(0, 1, 3), (0, 2, 3)]
        rows = [(1, (1, 1), [0]), (1, (0, 0), [1, 2]), (2, (1, 1), [0, 1]), (2, (0, 0), [2]),
                (1, (1, None), [0]), (2, (1, None), [0, 1]), (1, (2, None), []), (2, (0, 1), [0, 1, 2])]
        for step, mark, right in rows:
            self.assertEqual(moments(stair, row, step, mark), right)
            self.assertEqual(moments(stair, row[::-1], 3 - step, mark), right)
        both = [(0, 1, 2, 3)] + row
        self.assertEqual([moments(stair, both, 1, (many, many)) for many in (0, 1, 2, 3)], [[2, 3], [1], [0], []])
        self.assertEqual([moments(stair, both, 2, (many, many)) for many in (0, 1, 2, 3)], [[3], [1, 2], [0], []])

    def test_a_moment_is_there_if_the_low_is_worn(self):
        # The wear behind the moments falls from the whole one to 0, by at most 1 from each to the next one.
        chance = random.Random(65)
        for stair in small_stairs(5):
            ways = plain_ways(stair)
            row = [chance.choice(ways) for _ in range(6)] if ways else []
            for step in range(1, stair.head):
                whole = sum(step in way for way in row)
                for mark in [(low, high) for low in range(8) for high in (low, low + 2, None)]:
                    self.assertEqual(bool(moments(stair, row, step, mark)), whole >= mark[0])


class Wrong(Refusals):
    def both(self):
        return [Marks(four_jumps(), {1: (1, 4)}), Marks(four_jumps(), {1: (2, 2), "feet": (1, 1)})]

    def wrong_bounds(self):
        """Values that are no bound of a thing of four_jumps."""
        rows = odd_values() + [0, 1, "low", (), ("low",), ("low", 1, 1), ["low", 1], ("Low", 1), ("high ", 1), (1, 1),
                               (1, "low"), (None, 1), (True, 1), (b"low", 1), (["low"], 1), {"low": 1}]
        return rows + [("low", thing) for thing in wrong_things()]

    def refused_at(self, position, action, *values):
        with self.assertRaises(InvalidBounds) as caught:
            action(*values)
        self.assertEqual(caught.exception.position, position)

    def test_bounds(self):
        for marks in self.both():
            for action in (eased, helps, clash_beside, least_helps, sure_blamed):
                for value in odd_values() + [0, "low", {"low": 1}, {("low", 1): 1}]:
                    self.refused_at(None, action, marks, value)
                for value in self.wrong_bounds():
                    self.refused_at(0, action, marks, [value])
                    self.refused_at(1, action, marks, (("low", 1), value, None))
                self.refused_at(2, action, marks, [("low", 1), ("high", 1), ("low", 1), 5])
                self.refused_at(3, action, marks, [("low", (0, 1)), ("high", 1), ("low", "feet"), ("low", (0, 1))])
                action(marks, [("low", 1), ("high", 1)])

    def test_prices_that_are_no_clash(self):
        fit, none = self.both()
        clashing = {1: -1, "feet": 1}
        rows = [value for value in odd_values() if not isinstance(value, dict)] + [
            0, [], (), {}, {1: 0}, {True: -1, "feet": 1}, {1: -1, "feet": True}, {1: 1}, {1: -1}, {1: -2, "feet": 1},
            {1: -1, "feet": 1, 2: 1}, {5: -1}, [(1, -1)], {1: 1, "feet": -1}]
        for value in rows:
            self.refused(InvalidPrices, value, touched, none, value)
        self.refused(InvalidPrices, clashing, touched, fit, clashing)
        self.assertEqual(touched(none, clashing), [("high", "feet"), ("low", 1)])
        self.assertEqual(touched(none, {1: -3, "feet": 4}), [("high", "feet"), ("low", 1)])

    def test_numbers(self):
        for marks in self.both():
            for most in wrong_counts():
                self.refused(InvalidCount, most, mended, marks, most)

    def test_rows_steps_and_marks(self):
        stair = four_jumps()
        for row in odd_values() + [0, {}, (0, 1, 3), {(0, 1, 3): 1}, "way"]:
            self.refused(InvalidWays, row, moments, stair, row, None, None)
        for way in wrong_ways():
            row = [(0, 2, 3), way, (0, 1, 3)]
            self.refused(InvalidWays, row, moments, stair, row, 0, (1, 0))
        for step in wrong_things() + ["feet", (0, 1)]:
            self.refused(InvalidThing, step, moments, stair, [(0, 1, 3)], step, None)
        for mark in wrong_marks():
            self.refused(InvalidMark, mark, moments, stair, [(0, 1, 3)], 1, mark)
        self.assertEqual(moments(stair, [], 1, (0, 0)), [0])


if __name__ == "__main__":
    unittest.main()
