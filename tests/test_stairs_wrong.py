"""Stairs that are refused: which error, and with which value or position."""

import unittest

from tests.samples import all_jumps, forty_jumps, odd_values
from wornsteps.errors import InvalidJumps, InvalidLengths, InvalidSteps, TooMany
from wornsteps.stairs import Stair


class Refusals(unittest.TestCase):
    def refused(self, error, attributes, action, *values, **named):
        with self.assertRaises(error) as caught:
            action(*values, **named)
        self.assertIs(type(caught.exception), error)
        for name, value in attributes.items():
            found = getattr(caught.exception, name)
            self.assertTrue(found is value or (type(found), found) == (type(value), value), (found, value))


class WrongSteps(Refusals):
    def test_other_numbers(self):
        for steps in (0, 11, -1, -10, 12, 100, 10 ** 29):
            self.refused(InvalidSteps, {"value": steps}, Stair, steps, [])
            self.refused(InvalidSteps, {"value": steps}, Stair, steps=steps, jumps=[])
            self.refused(InvalidSteps, {"value": steps}, Stair.of, steps, 1)
            self.refused(InvalidSteps, {"value": steps}, Stair.of, steps)

    def test_other_kinds(self):
        for steps in odd_values() + [[1], (1,), [], (), {1: 1}, "3"]:
            self.refused(InvalidSteps, {"value": steps}, Stair, steps, [])
            self.refused(InvalidSteps, {"value": steps}, Stair.of, steps, 1)


class WrongJumps(Refusals):
    def test_no_list(self):
        for jumps in odd_values() + [1, {(0, 1): 1}, {(0, 1)}, "ab", zip([0], [1]), Stair.of(1, 1)]:
            self.refused(InvalidJumps, {"position": None}, Stair, 2, jumps)
            self.refused(InvalidJumps, {"position": None}, Stair, steps=2, jumps=jumps)

    def test_a_first_element_that_is_no_jump(self):
        for value in odd_values() + [(0, 4), (1, 1), (2, 1), (-1, 1), (0, 5), (3, 4), (0,), (0, 1, 2), (), 1, 0,
                                     [0, 1], [], ("0", "1"), (0, "1"), (None, 1), ((0, 1), 2), ((0, 1),),
                                     (0, True), (False, 1), (False, True), (True, 2), (0, [1]), (0, 10 ** 29)]:
            self.refused(InvalidJumps, {"position": 0}, Stair, 2, [value])
            self.refused(InvalidJumps, {"position": 0}, Stair, 2, (value,))
            self.refused(InvalidJumps, {"position": 2}, Stair, 2, [(0, 1), (1, 2), value, (0, 1)])

    def test_the_places_are_those_of_the_steps(self):
        for steps in range(1, 11):
            self.refused(InvalidJumps, {"position": 1}, Stair, steps, [(0, steps + 1), (0, steps + 2)])
            self.refused(InvalidJumps, {"position": 1}, Stair, steps, [(0, 1), (steps + 1, steps + 2)])

    def test_a_jump_that_stands_ahead(self):
        self.refused(InvalidJumps, {"position": 1}, Stair, 2, [(0, 1), (0, 1)])
        self.refused(InvalidJumps, {"position": 3}, Stair, 2, [(0, 1), (1, 2), (2, 3), (0, 1), (1, 2)])
        self.refused(InvalidJumps, {"position": 40}, Stair, 10, forty_jumps() + [(0, 1)])

    def test_the_first_of_two_faults_decides(self):
        self.refused(InvalidJumps, {"position": 1}, Stair, 2, [(0, 1), (0, 1), "x"])
        self.refused(InvalidJumps, {"position": 1}, Stair, 2, [(0, 1), "x", (0, 1)])
        self.refused(InvalidJumps, {"position": 0}, Stair, 2, ["x", "x"])

    def test_steps_come_ahead_of_jumps(self):
        self.refused(InvalidSteps, {"value": 0}, Stair, 0, None)
        self.refused(InvalidSteps, {"value": True}, Stair, True, [(5, 1)])
        self.refused(InvalidSteps, {"value": 11}, Stair, 11, all_jumps(11))


class TooManyJumps(Refusals):
    def test_forty_one(self):
        self.refused(TooMany, {"what": "jumps", "limit": 40}, Stair, 10, all_jumps(10)[:41])
        self.refused(TooMany, {"what": "jumps", "limit": 40}, Stair, 10, tuple(all_jumps(10)))

    def test_it_comes_last(self):
        self.refused(InvalidJumps, {"position": 41}, Stair, 10, all_jumps(10)[:41] + ["x"])
        self.refused(InvalidJumps, {"position": 50}, Stair, 10, all_jumps(10)[:50] + [(0, 1)])

    def test_of(self):
        self.refused(TooMany, {"what": "jumps", "limit": 40}, Stair.of, 10, 1, 2, 3, 4, 9)
        self.refused(TooMany, {"what": "jumps", "limit": 40}, Stair.of, 10, *range(1, 12))
        self.refused(InvalidLengths, {"position": 5}, Stair.of, 10, 1, 2, 3, 4, 5, 0)


class WrongLengths(Refusals):
    def test_other_numbers(self):
        for length in (0, 12, -1, 13, 10 ** 29):
            self.refused(InvalidLengths, {"position": 0}, Stair.of, 10, length)
            self.refused(InvalidLengths, {"position": 2}, Stair.of, 3, 2, 1, length, length)

    def test_other_kinds(self):
        for length in odd_values() + [[1], (1,), [], (), [1, 2], "1"]:
            self.refused(InvalidLengths, {"position": 0}, Stair.of, 3, length)
            self.refused(InvalidLengths, {"position": 1}, Stair.of, 3, 2, length)

    def test_one_that_stands_ahead(self):
        self.refused(InvalidLengths, {"position": 1}, Stair.of, 3, 1, 1)
        self.refused(InvalidLengths, {"position": 2}, Stair.of, 3, 11, 2, 11, 0)
        self.refused(InvalidLengths, {"position": 1}, Stair.of, 3, 1, True)

    def test_steps_come_ahead_of_lengths(self):
        self.refused(InvalidSteps, {"value": 0}, Stair.of, 0, 0)
        self.refused(InvalidSteps, {"value": False}, Stair.of, False, True)


class NothingChanges(Refusals):
    def test_what_was_passed_stays_as_it_was(self):
        jumps = [(1, 2), (0, 1), (1, 2)]
        self.refused(InvalidJumps, {"position": 2}, Stair, 2, jumps)
        self.assertEqual(jumps, [(1, 2), (0, 1), (1, 2)])


if __name__ == "__main__":
    unittest.main()
