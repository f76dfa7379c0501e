"""Narrower marks, needless ones, and parts, beside all crowds of small marks."""

import random
import unittest

from tests.samples import large_stair, lets, plain_ways
from tests.test_crowds_wrong import Refusals
from tests.test_fits import large_marks
from tests.test_scores import small_problems
from tests.test_ways_wrong import stair as four_jumps
from tests.test_ways_wrong import wrong_counts, wrong_things
from wornsteps.errors import InvalidCount, InvalidThing, NotBetween, NothingFits
from wornsteps.fits import does_fit
from wornsteps.marks import Marks
from wornsteps.narrowing import is_needless, is_tight, narrower, parts
from wornsteps.scores import range_of
from wornsteps.stairs import Stair

BIG = 10 ** 29


def without(marks, thing):
    """The dict of marks without one at a thing."""
    return {key: mark for key, mark in marks.told().items() if key != thing}


class Narrower(unittest.TestCase):
    def check(self, marks):
        """The marks are the ranges of all things, and tight; whether they were it ahead."""
        expected = {thing: range_of(marks, thing) for thing in marks.stair.things()}
        found = narrower(marks)
        self.assertEqual(found, Marks(marks.stair, expected))
        self.assertTrue(found.is_part_of(marks))
        self.assertEqual((narrower(found), is_tight(found)), (found, True))
        self.assertIs(is_tight(marks), found == marks)
        return found == marks

    def test_small_marks_against_all_crowds(self):
        seen = set()
        for marks, crowds in small_problems():
            if crowds:
                seen.add(self.check(marks))
                found = narrower(marks)
                for thing in marks.stair.things():
                    worn = [row[thing] for _, row in crowds]
                    self.assertEqual(found[thing], (min(worn), max(worn)))
                # The same crowds fit, also of those that do not fit the marks.
                for crowd, worn in crowds:
                    self.assertTrue(found(crowd))
                    for way in plain_ways(marks.stair):
                        self.assertEqual(found(crowd + way), marks(crowd + way))
            else:
                for action in (narrower, is_tight):
                    with self.assertRaises(NothingFits):
                        action(marks)
        self.assertIn(False, seen)

    def test_large_marks(self):
        endless = 0
        for marks in large_marks():
            if does_fit(marks):
                self.check(marks)
                endless += (0, None) in [narrower(marks)[thing] for thing in marks.stair.things()]
        self.assertGreater(endless, 5)

    def test_examples_and_names(self):
        marks = Marks(Stair.of(2, 1, 2), {1: (3, 3), 2: (1, 1)})
        self.assertEqual(narrower(marks=marks).told(), {
            "feet": (3, 4), 1: (3, 3), 2: (1, 1), (0, 1): (3, 3), (0, 2): (0, 1), (1, 2): (0, 1), (1, 3): (2, 3),
            (2, 3): (1, 1)})
        self.assertEqual((is_tight(marks=marks), is_tight(narrower(marks))), (False, True))
        self.assertEqual((narrower(Marks(marks.stair)), is_tight(Marks(marks.stair))), (Marks(marks.stair), True))
        one = Marks(marks.stair, {1: (2, BIG)})
        self.assertEqual(narrower(one).told(), {"feet": (2, None), 1: (2, BIG), (0, 1): (2, BIG), (1, 2): (0, BIG),
                                                (1, 3): (0, BIG)})
        self.assertEqual(narrower(Marks(Stair(1, [(0, 1)]))).told(), {"feet": (0, 0), 1: (0, 0), (0, 1): (0, 0)})


class Needless(unittest.TestCase):
    def test_small_marks_against_the_crowds_without_the_mark(self):
        seen = set()
        for marks, crowds in small_problems():
            for thing in marks.stair.things():
                if not crowds:
                    with self.assertRaises(NothingFits):
                        is_needless(marks, thing)
                elif thing != "feet":
                    # The mark at "feet" stays, so that all crowds that fit without the other mark have few feet.
                    low, high = range_of(Marks(marks.stair, without(marks, thing)), thing)
                    right = lets({thing: marks[thing]}, {thing: low}) and lets({thing: marks[thing]}, {thing: high})
                    seen.add((right, thing in marks))
                    self.assertIs(is_needless(marks, thing), right)
                    if right:
                        other = Marks(marks.stair, without(marks, thing))
                        self.assertEqual(narrower(other), narrower(marks))
        self.assertEqual(seen, {(True, True), (True, False), (False, True)})

    def test_large_marks(self):
        chance = random.Random(91)
        seen = set()
        for marks in large_marks():
            for thing in chance.sample(marks.stair.things(), min(3, len(marks.stair.things()))):
                if does_fit(marks):
                    other = Marks(marks.stair, without(marks, thing))
                    self.assertIs(is_needless(marks, thing), narrower(other) == narrower(marks))
                    seen.add(is_needless(marks, thing))
                else:
                    with self.assertRaises(NothingFits):
                        is_needless(marks, thing)
        self.assertEqual(seen, {True, False})

    def test_the_one_mark_that_nothing_fits(self):
        # Without it crowds fit, all above it, or all below it; with it none does.
        stair = Stair.of(2, 1, 2)
        for mark in ((0, 1), (6, 9), (6, None)):
            with self.assertRaises(NothingFits):
                is_needless(Marks(stair, {1: (2, 2), "feet": (0, 5), (0, 1): mark}), (0, 1))
        self.assertIs(is_needless(Marks(stair, {1: (2, 2), (0, 1): (2, 2)}), (0, 1)), True)
        self.assertIs(is_needless(thing=(0, 1), marks=Marks(stair, {1: (2, 3), (0, 1): (0, 5)})), True)
        self.assertIs(is_needless(Marks(stair, {1: (2, 3), (0, 1): (0, 2)}), (0, 1)), False)
        self.assertIs(is_needless(Marks(stair, {1: (2, None), (0, 1): (1, None)}), (0, 1)), True)
        self.assertIs(is_needless(Marks(stair, {1: (2, None), (0, 1): (0, BIG)}), (0, 1)), False)
        self.assertIs(is_needless(Marks(stair), "feet"), True)


class Parts(unittest.TestCase):
    def test_each_number_of_small_marks(self):
        seen = set()
        for marks, crowds in small_problems():
            for thing in marks.stair.things():
                worn = [row[thing] for _, row in crowds]
                for number in range(6):
                    if not crowds:
                        with self.assertRaises(NothingFits):
                            parts(marks, thing, number)
                    elif min(worn) <= number < max(worn):
                        seen.add("between")
                        self.check(marks, crowds, thing, number)
                    else:
                        with self.assertRaises(NotBetween) as caught:
                            parts(marks, thing, number)
                        found = caught.exception
                        self.assertEqual((found.least, found.greatest), (min(worn), max(worn) - 1))
                        seen.add(found.greatest < found.least)
        self.assertEqual(seen, {"between", True, False})

    def check(self, marks, crowds, thing, number):
        both = parts(marks, thing, number)
        self.assertIs(type(both), tuple)
        low, high = marks[thing]
        below = (low, number if high is None or high > number else high)
        above = (max(low, number + 1), high)
        self.assertEqual(both, (Marks(marks.stair, {**marks.told(), thing: below}),
                                Marks(marks.stair, {**marks.told(), thing: above})))
        for crowd, worn in crowds:
            self.assertEqual([part(crowd) for part in both], [worn[thing] <= number, worn[thing] > number])

    def test_endless_and_great_ones(self):
        stair = Stair.of(2, 1, 2)
        marks = Marks(stair, {1: (2, None), 2: (0, 3)})
        one, other = parts(number=BIG, thing=1, marks=marks)
        self.assertEqual((one[1], other[1], one[2], other[2]), ((2, BIG), (BIG + 1, None), (0, 3), (0, 3)))
        for number, thing, limits in ((1, 1, (2, None)), (3, 2, (0, 2)), (BIG, 2, (0, 2)), (0, "feet", (2, None))):
            with self.assertRaises(NotBetween) as caught:
                parts(marks, thing, number)
            self.assertEqual((caught.exception.least, caught.exception.greatest), limits)
        with self.assertRaises(NotBetween) as caught:
            parts(Marks(stair, {1: (2, 2)}), 1, 2)
        self.assertEqual((caught.exception.least, caught.exception.greatest), (2, 1))
        with self.assertRaises(NotBetween) as caught:
            parts(Marks(stair, {1: (0, 0)}), 1, 0)
        self.assertEqual((caught.exception.least, caught.exception.greatest), (0, -1))
        wide = Marks(large_stair(), {"feet": (0, 9), 3: (2, 50)})
        one, other = parts(wide, 3, 4)
        self.assertEqual((one.told(), other.told()), ({"feet": (0, 9), 3: (2, 4)}, {"feet": (0, 9), 3: (5, 50)}))
        # A high that is less than the number stays as it is; here it is the least of both.
        self.assertEqual(parts(Marks(stair, {1: (0, 5)}), (0, 1), 4)[0].told(), {1: (0, 5), (0, 1): (0, 4)})


class Wrong(Refusals):
    def both(self):
        return [Marks(four_jumps(), {1: (1, 4)}), Marks(four_jumps(), {1: (2, 2), "feet": (1, 1)})]

    def test_things_and_numbers(self):
        for marks in self.both():
            for thing in wrong_things():
                self.refused(InvalidThing, thing, is_needless, marks, thing)
                self.refused(InvalidThing, thing, parts, marks, thing, None)
            for number in wrong_counts():
                self.refused(InvalidCount, number, parts, marks, 1, number)

    def test_nothing_fits(self):
        none = self.both()[1]
        for action in (narrower, is_tight, lambda marks: is_needless(marks, 2), lambda marks: parts(marks, 1, 0)):
            with self.assertRaises(NothingFits):
                action(none)

    def test_what_is_passed_stays(self):
        marks = self.both()[0]
        before = repr(marks)
        narrower(marks)
        parts(marks, 1, 2)
        self.assertEqual((is_needless(marks, 1), is_tight(marks), repr(marks)), (False, False, before))


if __name__ == "__main__":
    unittest.main()
