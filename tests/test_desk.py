"""Desks: what changes their marks, what is refused, what is taken back, and trials."""

import random
import unittest

from tests.samples import chance_marks, chance_ways, large_stair, odd_values, plain_wears, small_stairs
from tests.test_blame import bounds_of, eased_by
from tests.test_crowds_wrong import Refusals
from tests.test_marks import wrong_marks
from tests.test_ways_wrong import stair as four_jumps
from tests.test_ways_wrong import wrong_counts, wrong_things
from wornsteps.crowds import Crowd
from wornsteps.desk import Desk, Trial, tried
from wornsteps.errors import (InvalidBounds, InvalidCount, InvalidMark, InvalidThing, NotBetween, NothingFits,
                              NothingToUndo, OtherStair)
from wornsteps.marks import Marks
from wornsteps.scores import range_of
from wornsteps.stairs import Stair

BIG = 10 ** 29


def begin():
    return Marks(Stair.of(2, 1, 2), {1: (3, 3), 2: (1, 1)})


class Changes(unittest.TestCase):
    def test_as_they_stand(self):
        marks = begin()
        desk = Desk(marks)
        self.assertEqual((desk.marks, len(desk), desk[1], desk["feet"], 1 in desk, "feet" in desk),
                         (marks, 0, (3, 3), (0, None), True, False))
        self.assertEqual(Desk(marks=marks).marks, marks)

    def test_marks_are_set(self):
        desk, other = Desk(begin()), Marks(begin().stair, {"feet": (1, 2)})
        desk.marks = other
        self.assertEqual((desk.marks, len(desk)), (other, 1))
        self.assertIsNone(desk.set_marks(marks=begin()))
        self.assertEqual((desk.marks, len(desk)), (begin(), 2))
        desk[(0, 1)] = (2, 5)
        self.assertEqual((desk.marks.told(), len(desk)), ({1: (3, 3), 2: (1, 1), (0, 1): (2, 5)}, 3))
        desk[1] = (0, None)
        self.assertEqual((desk.marks.told(), 1 in desk, (0, 1) in desk), ({2: (1, 1), (0, 1): (2, 5)}, False, True))
        desk[1] = (0, None)
        self.assertEqual(len(desk), 5)

    def test_feet_that_have_come_too(self):
        chance = random.Random(99)
        for stair in small_stairs(5) + [large_stair()]:
            marks = Marks(stair, chance_marks(chance, stair, 3, BIG, 2))
            ways = chance_ways(chance, stair, 3, 10 ** 28)
            desk = kept = Desk(marks)
            desk += Crowd(stair, ways)
            worn = plain_wears(stair, ways)
            told = {thing: (low + worn[thing], None if high is None else high + worn[thing])
                    for thing, (low, high) in marks.told().items()}
            self.assertIs(desk, kept)
            self.assertEqual((desk.marks.told(), list(desk.marks.told()), len(desk)), (told, list(told), 1))
            self.assertEqual(marks, Marks(stair, marks.told()))
        desk = Desk(begin())
        desk += Crowd.of(begin().stair, (0, 1, 2, 3), (0, 2, 3))
        self.assertEqual(desk.marks.told(), {1: (4, 4), 2: (3, 3)})

    def test_bounds_that_are_given_up(self):
        chance = random.Random(100)
        for stair in small_stairs(5):
            marks = Marks(stair, chance_marks(chance, stair, 3, 3, 1))
            bounds = chance.sample(bounds_of(stair), 3)
            desk = kept = Desk(marks)
            for bound in bounds:
                desk -= bound
            other = Desk(marks)
            self.assertIsNone(other.ease(bounds=bounds))
            self.assertIs(desk, kept)
            self.assertEqual((desk.marks, other.marks), (eased_by(marks, bounds), eased_by(marks, bounds)))
            self.assertEqual((len(desk), len(other)), (3, 1))
        other.ease([])
        self.assertEqual(len(other), 2)

    def test_measured(self):
        desk = Desk(begin())
        self.assertIsNone(desk.measure(wear=4, thing="feet"))
        self.assertEqual((desk["feet"], len(desk)), ((4, 4), 1))
        for action, error in ((lambda: desk.measure("feet", 3), NotBetween), (lambda: desk.measure(9, 3), InvalidThing),
                              (lambda: desk.measure(1, -1), InvalidCount)):
            with self.assertRaises(error):
                action()
        desk["feet"] = (0, 1)
        with self.assertRaises(NothingFits):
            desk.measure("feet", 1)
        self.assertEqual((desk["feet"], len(desk)), ((0, 1), 2))

    def test_taken_back(self):
        desk = Desk(begin())
        crowd = Crowd.of(begin().stair, (0, 1, 3))

        def add():
            nonlocal desk
            desk += crowd

        def give_up():
            nonlocal desk
            desk -= ("high", 1)

        changes = [lambda: desk.set_marks(begin()), add, give_up, lambda: desk.ease([("low", 2)]),
                   lambda: desk.measure("feet", range_of(desk.marks, "feet")[0]), lambda: desk.do("feet 0 9"),
                   lambda: desk.do_all("step 1 2 -", "ease low step 1"), lambda: desk.__setitem__((0, 2), (0, 5))]
        for _ in range(3):
            states = []
            for change in changes:
                states.append((desk.marks, len(desk)))
                change()
            self.assertEqual(len(desk), 9)
            for marks, many in reversed(states):
                while len(desk) > many:
                    self.assertIsNone(desk.undo())
                self.assertEqual((desk.marks, len(desk)), (marks, many))
            with self.assertRaises(NothingToUndo):
                desk.undo()
            self.assertEqual((desk.marks, len(desk)), (begin(), 0))

    def test_three_hundred_changes(self):
        desk = Desk(begin())
        for k in range(300):
            desk["feet"] = (k, None)
        self.assertEqual((len(desk), desk["feet"]), (300, (299, None)))
        for _ in range(200):
            desk.undo()
        self.assertEqual((len(desk), desk["feet"]), (100, (99, None)))
        desk[1] = (0, 0)
        desk.undo()
        self.assertEqual((len(desk), desk[1], desk["feet"]), (100, (3, 3), (99, None)))

    def test_several_desks_and_what_was_handed_in(self):
        marks, table, bounds = begin(), {1: (3, 3), 2: (1, 1)}, [("low", 1)]
        one, other = Desk(marks), Desk(marks)
        one.ease(bounds)
        bounds.append(("high", 1))
        one.marks.told().clear()
        third = Desk(one.marks)
        third["feet"] = (0, 0)
        self.assertEqual((one.marks.told(), other.marks.told(), marks.told()), ({1: (0, 3), 2: (1, 1)}, table, table))
        self.assertEqual((len(one), len(other), len(third)), (1, 0, 1))
        crowd = Crowd.of(marks.stair, (0, 1, 3))
        other += crowd
        self.assertEqual(crowd, Crowd.of(marks.stair, (0, 1, 3)))


class Trials(unittest.TestCase):
    def test_a_block(self):
        desk = Desk(begin())
        desk["feet"] = (0, 9)
        before = (desk.marks, len(desk))
        with Trial(desk) as held:
            self.assertIs(held, desk)
            desk[1] = (0, 0)
            desk.undo()
            desk.undo()
            self.assertEqual((desk.marks, len(desk)), (begin(), 0))
            desk.do_all("feet 1 1", "step 2 0 0")
        self.assertEqual((desk.marks, len(desk)), before)
        desk.undo()
        self.assertEqual((desk.marks, len(desk)), (begin(), 0))

    def test_nested(self):
        desk = Desk(begin())
        trial = Trial(desk=desk)
        with trial:
            desk[1] = (1, 1)
            with Trial(desk):
                desk[1] = (2, 2)
                with trial:
                    desk[1] = (4, 4)
                    desk.undo()
                    desk.undo()
                    desk.undo()
                    self.assertEqual((desk[1], len(desk)), ((3, 3), 0))
                self.assertEqual((desk[1], len(desk)), ((2, 2), 2))
            self.assertEqual((desk[1], len(desk)), ((1, 1), 1))
        self.assertEqual((desk[1], len(desk)), ((3, 3), 0))
        with trial:
            desk[1] = (9, 9)
        self.assertEqual((desk[1], len(desk)), ((3, 3), 0))

    def test_errors_that_leave_it(self):
        desk = Desk(begin())
        for error in (KeyError, NothingToUndo, InvalidMark, KeyboardInterrupt):
            problem = error(1) if error is not NothingToUndo else error()
            with self.assertRaises(error) as caught:
                with Trial(desk):
                    desk[1] = (0, 0)
                    raise problem
            self.assertIs(caught.exception, problem)
            self.assertEqual((desk.marks, len(desk)), (begin(), 0))
        with self.assertRaises(NothingToUndo):
            with Trial(desk):
                with Trial(desk):
                    desk["feet"] = (0, 0)
                    desk.undo()
                    desk.undo()
        self.assertEqual((desk.marks, len(desk)), (begin(), 0))

    def test_tried(self):
        desk = Desk(begin())
        desk.do("ease high step 2")
        self.assertEqual(tried(desk, lambda held: (held is desk, held.do("measure step 2 3"), held[2], len(held))),
                         (True, "done", (3, 3), 2))
        self.assertEqual((desk[2], len(desk)), ((1, None), 1))
        self.assertIsNone(tried(action=Desk.undo, desk=desk))
        self.assertEqual((desk[2], len(desk)), ((1, None), 1))
        self.assertEqual(tried(desk, lambda held: tried(held, lambda inner: inner.do_all("undo", "fits")) + [held[2]]),
                         ["done", "yes", (1, None)])
        with self.assertRaises(ZeroDivisionError):
            tried(desk, lambda held: held.ease([("low", 1)]) or 1 // 0)
        self.assertEqual((desk.marks.told(), len(desk)), ({1: (3, 3), 2: (1, None)}, 1))

    def test_the_desk_itself_is_what_came_out_of_it(self):
        desk = Desk(begin())
        with Trial(desk) as held:
            held += Crowd.of(begin().stair, (0, 1, 3))
            held -= ("low", 2)
            self.assertEqual((desk.marks.told(), len(desk)), ({1: (4, 4), 2: (0, 1)}, 2))
        self.assertEqual((held.marks, len(held)), (begin(), 0))


class Wrong(Refusals):
    def desk(self):
        desk = Desk(Marks(four_jumps(), {1: (1, 4)}))
        desk[2] = (0, 7)
        return desk

    def unchanged(self, desk):
        self.assertEqual((desk.marks.told(), len(desk)), ({1: (1, 4), 2: (0, 7)}, 1))

    def test_things_and_marks(self):
        desk = self.desk()
        for thing in wrong_things():
            self.refused(InvalidThing, thing, lambda wrong: desk[wrong], thing)
            self.refused(InvalidThing, thing, desk.__setitem__, thing, None)
            self.refused(InvalidThing, thing, desk.measure, thing, None)
            self.assertIs(thing in desk, False)
        for mark in wrong_marks():
            self.refused(InvalidMark, mark, desk.__setitem__, 1, mark)
        for number in wrong_counts():
            self.refused(InvalidCount, number, desk.measure, 1, number)
        self.unchanged(desk)
        with self.assertRaises(TypeError):
            list(desk)

    def test_bounds(self):
        desk = self.desk()

        def give_up(bound):
            held = desk
            held -= bound

        def at(position, action, value):
            with self.assertRaises(InvalidBounds) as caught:
                action(value)
            self.assertEqual(caught.exception.position, position)

        for value in odd_values() + [0, (), [], ("low",), ["low", 1], ("low", 5), ("Low", 1), (1, "low"), [("low", 1)],
                                     ("low", 1, 1), ("low", True), ("low", (0, 3))]:
            at(None, give_up, value)
            at(1, desk.ease, [("low", 1), value])
        for value in odd_values() + [0, {("low", 1): 1}, "low"]:
            at(None, desk.ease, value)
        at(2, desk.ease, (("low", 1), ("low", 2), ("low", 1)))
        self.unchanged(desk)

    def test_other_stairs(self):
        desk, other = self.desk(), Marks(begin().stair)

        def set_it():
            desk.marks = other

        def add():
            held = desk
            held += Crowd(other.stair)

        for action in (lambda: desk.set_marks(other), set_it, add):
            with self.assertRaises(OtherStair) as caught:
                action()
            self.assertEqual((caught.exception.one, caught.exception.other), (four_jumps(), other.stair))
        self.unchanged(desk)


if __name__ == "__main__":
    unittest.main()
