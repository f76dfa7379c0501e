"""What can be done with stairs: with a jump more or less, both together, part of another."""

import unittest

from tests.samples import all_jumps, forty_jumps, odd_values, some_stairs
from wornsteps.errors import InvalidJump, OtherSteps, TooMany
from wornsteps.stairs import Stair


class Add(unittest.TestCase):
    def test_each_jump_of_the_places(self):
        for stair in some_stairs():
            before = repr(stair)
            for jump in all_jumps(stair.steps):
                if jump in stair.jumps() or len(stair) < 40:
                    more = stair + jump
                    self.assertIs(type(more), Stair)
                    self.assertEqual(more.jumps(), sorted({*stair.jumps(), jump}))
                    self.assertEqual(more.steps, stair.steps)
            self.assertEqual(repr(stair), before)

    def test_a_jump_that_is_there_already(self):
        stair = Stair.of(2, 1, 2)
        self.assertEqual(stair + (0, 1), stair)
        full = Stair(10, forty_jumps())
        self.assertEqual(full + (0, 11), full)

    def test_forty_jumps_and_one_more(self):
        full = Stair(10, forty_jumps())
        with self.assertRaises(TooMany) as caught:
            full + (0, 10)
        self.assertEqual((caught.exception.what, caught.exception.limit), ("jumps", 40))
        self.assertEqual(full.jumps(), forty_jumps())
        self.assertEqual(len(full - (0, 11) + (0, 10)), 40)

    def test_no_jump_of_its_places(self):
        full = Stair(10, forty_jumps())
        for stair in (Stair.of(2, 1, 2), full):
            head = stair.head
            for value in odd_values() + [1, (0, head + 1), (head, head + 1), (1, 1), (1, 0), (-1, 1), (0, True),
                                         (False, 1), (True, 2), [0, 1], (0,), (0, 1, 2), (), (0, "1"), ((0, 1),)]:
                with self.assertRaises(InvalidJump) as caught:
                    stair + value
                self.assertIs(caught.exception.value, value)
        self.assertEqual(full.jumps(), forty_jumps())


class Subtract(unittest.TestCase):
    def test_each_of_its_jumps(self):
        for stair in some_stairs():
            before = repr(stair)
            for jump in stair.jumps():
                less = stair - jump
                self.assertIs(type(less), Stair)
                self.assertEqual(less.jumps(), [other for other in stair.jumps() if other != jump])
                self.assertEqual(less.steps, stair.steps)
                self.assertEqual(less + jump, stair)
            self.assertEqual(repr(stair), before)

    def test_none_of_its_jumps(self):
        stair = Stair(3, [(0, 1), (1, 4), (2, 3)])
        for value in odd_values() + [(0, 2), (0, 4), (1, 0), (0, True), (False, 1), (True, 4), [0, 1], 1, 2, (0,), (),
                                     (0, 1, 4), ((0, 1),), (4, 5), "feet"]:
            with self.assertRaises(InvalidJump) as caught:
                stair - value
            self.assertIs(caught.exception.value, value)
        self.assertEqual(stair.jumps(), [(0, 1), (1, 4), (2, 3)])


class Together(unittest.TestCase):
    def test_either_and_both(self):
        stairs = some_stairs()
        for one in stairs:
            for other in stairs:
                either = sorted({*one.jumps(), *other.jumps()})
                if one.steps == other.steps and len(either) <= 40:
                    before = (repr(one), repr(other))
                    self.assertEqual(one | other, Stair(one.steps, either))
                    self.assertEqual((repr(one), repr(other)), before)
                if one.steps == other.steps:
                    both = [jump for jump in one.jumps() if jump in other.jumps()]
                    self.assertEqual(one & other, Stair(one.steps, both))
                    self.assertIs(type(one & other), Stair)

    def test_with_itself(self):
        full = Stair(10, forty_jumps())
        self.assertEqual((full | full, full & full), (full, full))

    def test_other_steps(self):
        one, other = Stair.of(3, 1, 2), Stair.of(4, 1, 2)
        for action in (lambda a, b: a | b, lambda a, b: a & b):
            with self.assertRaises(OtherSteps) as caught:
                action(one, other)
            self.assertEqual((caught.exception.one, caught.exception.other), (3, 4))
            with self.assertRaises(OtherSteps) as caught:
                action(other, one)
            self.assertEqual((caught.exception.one, caught.exception.other), (4, 3))
        self.assertEqual((one, other), (Stair.of(3, 1, 2), Stair.of(4, 1, 2)))

    def test_too_many(self):
        one, other = Stair(10, all_jumps(10)[:40]), Stair(10, all_jumps(10)[-1:])
        for first, second in ((one, other), (other, one), (one, Stair(10, all_jumps(10)[-40:]))):
            with self.assertRaises(TooMany) as caught:
                first | second
            self.assertEqual((caught.exception.what, caught.exception.limit), ("jumps", 40))
        self.assertEqual(len(Stair(10, all_jumps(10)[:39]) | other), 40)
        self.assertEqual((one.jumps(), other.jumps()), (all_jumps(10)[:40], all_jumps(10)[-1:]))

    def test_other_steps_come_ahead_of_too_many(self):
        with self.assertRaises(OtherSteps):
            Stair(10, all_jumps(10)[:40]) | Stair(9, all_jumps(9)[-40:])


class Part(unittest.TestCase):
    def test_each_jump_of_one_is_a_jump_of_other(self):
        stairs = some_stairs()
        for one in stairs:
            for other in stairs:
                expected = one.steps == other.steps and set(one.jumps()) <= set(other.jumps())
                self.assertIs(one.is_part_of(other), expected)

    def test_itself_less_and_more(self):
        stair = Stair.of(3, 1, 2)
        self.assertIs(stair.is_part_of(stair), True)
        self.assertIs((stair - (0, 1)).is_part_of(stair), True)
        self.assertIs(stair.is_part_of(stair - (0, 1)), False)
        self.assertIs(stair.is_part_of(other=stair + (0, 4)), True)
        self.assertIs(Stair(3, []).is_part_of(stair), True)

    def test_other_steps(self):
        self.assertIs(Stair(3, []).is_part_of(Stair(4, [])), False)
        self.assertIs(Stair(3, [(0, 1)]).is_part_of(Stair(4, [(0, 1)])), False)
        self.assertIs(Stair(4, [(0, 1)]).is_part_of(Stair(3, [(0, 1)])), False)


if __name__ == "__main__":
    unittest.main()
