"""Marks: what they tell, how they are put together, which crowds fit, and what is refused."""

import random
import unittest

from tests.samples import chance_marks, lets, odd_values, plain_wears, small_stairs, some_feet, some_stairs
from tests.test_crowds_wrong import Refusals
from tests.test_ways_wrong import stair as other_stair
from tests.test_ways_wrong import wrong_things
from wornsteps.crowds import Crowd
from wornsteps.errors import InvalidMark, InvalidMarks, InvalidThing, OtherStair, Unmeeting
from wornsteps.marks import Marks
from wornsteps.stairs import Stair

BIG = 10 ** 29


def stair():
    return Stair.of(2, 1, 2)


def some_marks():
    """Rows of a stair and a dict from things to marks."""
    chance = random.Random(4)
    rows = []
    for sample in some_stairs():
        rows.append((sample, {}))
        rows.append((sample, {thing: (0, None) for thing in sample.things()}))
        rows.append((sample, {thing: (k, k + BIG) for k, thing in enumerate(reversed(sample.things()))}))
        rows.append((sample, chance_marks(chance, sample, 3, 5, 2)))
    return rows


def wrong_marks():
    """Values that are no mark."""
    return odd_values() + [0, 1, (), (1,), (1, 2, 3), [1, 2], [0, None], (2, 1), (1, 0), (-1, 1), (0, -1), (-2, -1),
                           (True, 1), (0, True), (False, None), (0, False), (None, 1), (None, None), ("0", 1), (0, "1"),
                           (0, [1]), ([0], 1), (BIG, BIG - 1), (0, ()), {0: 1}, (0, object()), (object(), None)]


class Telling(unittest.TestCase):
    def test_what_they_tell(self):
        for sample, table in some_marks():
            marks = Marks(sample, table)
            told = {thing: mark for thing, mark in table.items() if mark != (0, None)}
            self.assertEqual(marks.told(), told)
            self.assertEqual(list(marks.told()), [thing for thing in sample.things() if thing in told])
            self.assertEqual((len(marks), marks.stair), (len(told), sample))
            for thing in sample.things():
                self.assertEqual((marks[thing], thing in marks), (table.get(thing, (0, None)), thing in told))

    def test_none(self):
        for marks in (Marks(stair()), Marks(stair(), None), Marks(stair(), {}), Marks(marks=None, stair=stair())):
            self.assertEqual((marks.told(), len(marks), marks["feet"], "feet" in marks), ({}, 0, (0, None), False))

    def test_what_was_passed_and_returned_can_be_changed(self):
        table = {1: (1, 2)}
        marks = Marks(stair(), table)
        table[2] = (0, 0)
        marks.told().clear()
        self.assertEqual(marks.told(), {1: (1, 2)})

    def test_in_takes_any_value(self):
        marks = Marks(stair(), {thing: (1, 1) for thing in stair().things()})
        for value in [value for value in wrong_things() if value not in (3, (1, 2))] + [3, (2, 1), (0, 3)]:
            self.assertIs(value in marks, False)

    def test_with_another_mark(self):
        for sample, table in some_marks():
            marks = Marks(sample, table)
            for thing in sample.things()[:12]:
                for low, high in ((0, None), (0, 0), (3, 3), (2, BIG), (BIG, None)):
                    other = marks.with_mark(thing, low, high)
                    self.assertEqual(other, Marks(sample, {**table, thing: (low, high)}))
                    self.assertIs(type(other), Marks)
            self.assertEqual(marks, Marks(sample, table))
        self.assertEqual(Marks(stair()).with_mark("feet", 4)["feet"], (4, None))
        self.assertEqual(Marks(stair()).with_mark(high=5, low=4, thing=1).told(), {1: (4, 5)})

    def test_equal(self):
        one = Marks(stair(), {1: (0, 1), 2: (1, None), "feet": (0, None)})
        self.assertTrue(one == Marks(stair(), {2: (1, None), 1: (0, 1)}))
        for other in (Marks(stair(), {1: (0, 1)}), Marks(stair(), {1: (0, 1), 2: (1, 9)}), Marks(stair()),
                      Marks(stair() - (0, 1), {1: (0, 1), 2: (1, None)}), one.told(), None, repr(one), Crowd(stair())):
            self.assertIs(one == other, False)
            self.assertIs(one != other, True)

    def test_text(self):
        self.assertEqual(repr(Marks(Stair(1, [(0, 2)]), {"feet": (1, None), 1: (0, None)})),
                         "Marks(Stair(1, [(0, 2)]), {'feet': (1, None)})")
        for sample, table in some_marks():
            self.assertEqual(eval(repr(Marks(sample, table))), Marks(sample, table))


class Together(unittest.TestCase):
    def test_the_greater_low_and_the_lesser_high(self):
        choices = [(0, None), (0, 0), (0, 2), (1, 1), (1, 3), (2, None), (3, 3), (BIG, None), (0, BIG)]
        for one in choices:
            for other in choices:
                low = max(one[0], other[0])
                highs = [mark[1] for mark in (one, other) if mark[1] is not None]
                first, second = Marks(stair(), {2: one, 1: (1, 1)}), Marks(stair(), {2: other})
                if highs and low > min(highs):
                    with self.assertRaises(Unmeeting) as caught:
                        first & second
                    self.assertEqual(caught.exception.value, 2)
                else:
                    both = Marks(stair(), {2: (low, min(highs) if highs else None), 1: (1, 1)})
                    self.assertEqual((first & second, second & first), (both, both))

    def test_the_first_thing_that_does_not_meet(self):
        one = Marks(stair(), {thing: (0, 1) for thing in stair().things()})
        for thing in stair().things():
            behind = stair().things()[stair().things().index(thing):]
            other = Marks(stair(), {late: (2, 2) for late in reversed(behind)})
            for action in (lambda: one & other, lambda: other & one):
                with self.assertRaises(Unmeeting) as caught:
                    action()
                self.assertEqual(caught.exception.value, thing)

    def test_part_of(self):
        choices = [(0, None), (0, 0), (0, 2), (1, 1), (1, 3), (2, None), (2, 2)]
        for one in choices:
            for other in choices:
                expected = all(lets({1: other}, {1: number}) for number in range(6) if lets({1: one}, {1: number}))
                self.assertIs(Marks(stair(), {1: one, 2: (1, 1)}).is_part_of(Marks(stair(), {1: other})), expected)
        self.assertIs(Marks(stair()).is_part_of(other=Marks(stair(), {(2, 3): (1, None)})), False)
        self.assertIs(Marks(stair()).is_part_of(Marks(stair() - (0, 1))), False)

    def test_other_stairs(self):
        one, other = Marks(stair(), {1: (0, 0)}), Marks(stair() - (0, 1), {1: (1, 1)})
        for action, first, second in ((lambda: one & other, one, other), (lambda: other & one, other, one)):
            with self.assertRaises(OtherStair) as caught:
                action()
            self.assertEqual((caught.exception.one, caught.exception.other), (first.stair, second.stair))


class Fitting(unittest.TestCase):
    def test_crowds_of_small_stairs(self):
        chance = random.Random(2)
        found = []
        for sample in small_stairs(4):
            for ways in some_feet(sample, 3):
                worn = plain_wears(sample, ways)
                told = chance_marks(chance, sample, 3, 2, 1)
                self.assertIs(Marks(sample, told)(Crowd(sample, ways)), lets(told, worn))
                found.append(lets(told, worn))
        self.assertEqual({True, False}, set(found))

    def test_one_above_and_one_below(self):
        crowd = Crowd(stair(), {(0, 1, 2, 3): BIG, (0, 1, 3): 2})
        for thing, wear in crowd.wears().items():
            self.assertIs(Marks(stair(), {thing: (wear, wear)})(crowd), True)
            self.assertIs(Marks(stair(), {thing: (wear + 1, None)})(crowd), False)
            self.assertIs(Marks(stair(), {thing: (wear, None)})(crowd=crowd), True)
            if wear:
                self.assertIs(Marks(stair(), {thing: (0, wear - 1)})(crowd), False)

    def test_the_empty_crowd(self):
        for thing in stair().things():
            self.assertIs(Marks(stair(), {thing: (0, 0)})(Crowd(stair())), True)
            self.assertIs(Marks(stair(), {thing: (1, None)})(Crowd(stair())), False)
        self.assertIs(Marks(stair())(Crowd(stair())), True)

    def test_a_crowd_of_another_stair(self):
        with self.assertRaises(OtherStair) as caught:
            Marks(stair())(Crowd(stair() - (0, 1)))
        self.assertEqual((caught.exception.one, caught.exception.other), (stair(), stair() - (0, 1)))


class Wrong(Refusals):
    def test_dicts(self):
        rows = [value for value in odd_values() if value is not None and not isinstance(value, dict)]
        rows += [0, [], (), [(1, (0, 1))], ["feet"], Marks(other_stair())]
        for thing in wrong_things():
            try:
                rows.append({2: (0, 1), thing: (0, 1)})
            except TypeError:
                pass  # Such a value can be no key.
        for mark in wrong_marks():
            rows += [{1: (0, 1), 2: mark}, {"feet": mark, 1: (0, 1)}]
        for table in rows:
            self.refused(InvalidMarks, table, Marks, other_stair(), table)

    def test_things(self):
        marks = Marks(other_stair(), {1: (1, 1)})
        for thing in wrong_things():
            self.refused(InvalidThing, thing, lambda wrong: marks[wrong], thing)
            self.refused(InvalidThing, thing, marks.with_mark, thing, 0)
            self.refused(InvalidThing, thing, marks.with_mark, thing, True, -1)

    def test_marks(self):
        marks = Marks(other_stair(), {1: (1, 1)})
        for mark in [mark for mark in wrong_marks() if isinstance(mark, tuple) and len(mark) == 2]:
            with self.assertRaises(InvalidMark) as caught:
                marks.with_mark(1, *mark)
            self.assertIs(type(caught.exception.value), tuple)
            for told, passed in zip(caught.exception.value, mark):
                self.assertIs(told, passed)
        with self.assertRaises(InvalidMark) as caught:
            marks.with_mark(1, -1)
        self.assertEqual(caught.exception.value, (-1, None))

    def test_they_are_not_iterated_over(self):
        with self.assertRaises(TypeError):
            list(Marks(stair(), {1: (1, 1)}))


if __name__ == "__main__":
    unittest.main()
