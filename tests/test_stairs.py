"""Stairs as they are made: right values, and what a stair tells of itself."""

import inspect
import random
import unittest

from tests.samples import EqualToAll, all_jumps, forty_jumps, odd_values, plain_ways, some_stairs
from wornsteps.stairs import Stair


class Making(unittest.TestCase):
    def test_one_to_ten_steps(self):
        for steps in range(1, 11):
            stair = Stair(steps, [(0, steps + 1)])
            self.assertEqual((stair.steps, stair.head), (steps, steps + 1))
            self.assertEqual(stair.jumps(), [(0, steps + 1)])

    def test_by_name(self):
        self.assertEqual(Stair(jumps=[(0, 1)], steps=2), Stair(2, [(0, 1)]))
        self.assertEqual(Stair.of(steps=2), Stair(2, []))

    def test_no_jumps(self):
        for stair in (Stair(4, []), Stair(4, ()), Stair.of(4)):
            self.assertEqual((stair.jumps(), len(stair), list(stair), stair.lengths()), ([], 0, [], []))
            self.assertEqual(stair.things(), ["feet", 1, 2, 3, 4])

    def test_forty_jumps(self):
        stair = Stair(10, forty_jumps())
        self.assertEqual((len(stair), stair.jumps()), (40, forty_jumps()))

    def test_each_jump_of_the_places_is_accepted(self):
        for steps in range(1, 11):
            for jump in all_jumps(steps):
                self.assertEqual(Stair(steps, [jump]).jumps(), [jump])

    def test_jumps_as_a_list_and_as_a_tuple_in_any_sequence(self):
        for seed in range(10):
            jumps = forty_jumps()
            random.Random(seed).shuffle(jumps)
            self.assertEqual(Stair(10, jumps).jumps(), forty_jumps())
            self.assertEqual(Stair(10, tuple(jumps)).jumps(), forty_jumps())

    def test_limits_are_class_values(self):
        self.assertEqual((Stair.MOST_STEPS, Stair.MOST_JUMPS), (10, 40))
        self.assertEqual((Stair(1, []).MOST_STEPS, Stair(1, []).MOST_JUMPS), (10, 40))


class Of(unittest.TestCase):
    def test_all_jumps_of_the_lengths(self):
        for steps in range(1, 11):
            for lengths in ((1,), (2, 1), (3, 1), (11,), (5, 7, 11), (1, 2, 3)):
                expected = [(i, j) for i, j in all_jumps(steps) if j - i in lengths]
                stair = Stair.of(steps, *lengths)
                self.assertEqual((stair.steps, stair.jumps()), (steps, expected))

    def test_lengths_that_no_two_places_have(self):
        self.assertEqual(Stair.of(1, 3, 11), Stair(1, []))
        self.assertEqual(Stair.of(1, 2, 3), Stair(1, [(0, 2)]))
        self.assertEqual(Stair.of(9, 11).jumps(), [])
        self.assertEqual(Stair.of(10, 11).jumps(), [(0, 11)])
        self.assertEqual(Stair.of(2, 3, 4, 5, 6, 7, 8, 9, 10, 11).jumps(), [(0, 3)])

    def test_all_eleven_lengths(self):
        self.assertEqual(Stair.of(7, *range(1, 12)).jumps(), all_jumps(7))
        self.assertEqual(len(Stair.of(7, *range(1, 12))), 36)

    def test_just_forty_jumps(self):
        self.assertEqual(len(Stair.of(10, 1, 2, 3, 4, 10)), 40)


class Telling(unittest.TestCase):
    def test_steps_head_jumps_len_and_iteration(self):
        stair = Stair(3, [(2, 4), (0, 2), (0, 1)])
        self.assertEqual((stair.steps, stair.head, len(stair)), (3, 4, 3))
        self.assertEqual(stair.jumps(), [(0, 1), (0, 2), (2, 4)])
        self.assertEqual(list(stair), [(0, 1), (0, 2), (2, 4)])
        self.assertEqual([jump for jump in stair], stair.jumps())
        self.assertIs(type(stair.jumps()), list)

    def test_iterations_side_by_side(self):
        stair = Stair.of(2, 1, 2)
        one, other = iter(stair), iter(stair)
        self.assertEqual([next(one), next(one), next(other), next(one)], [(0, 1), (0, 2), (0, 1), (1, 2)])
        self.assertEqual(list(stair), stair.jumps())

    def test_things_in_order(self):
        self.assertEqual(Stair(2, [(1, 3), (0, 2)]).things(), ["feet", 1, 2, (0, 2), (1, 3)])
        for stair in some_stairs():
            self.assertEqual(stair.things(), ["feet", *range(1, stair.steps + 1), *stair.jumps()])
            self.assertIs(type(stair.things()), list)

    def test_lengths_sorted_each_once(self):
        self.assertEqual(Stair(10, [(0, 11), (0, 1), (3, 4), (1, 10)]).lengths(), [1, 9, 11])
        for stair in some_stairs():
            self.assertEqual(stair.lengths(), sorted({j - i for i, j in stair.jumps()}))
            self.assertIs(type(stair.lengths()), list)

    def test_properties_cannot_be_set(self):
        stair = Stair(2, [])
        for name in ("steps", "head"):
            with self.assertRaises(AttributeError):
                setattr(stair, name, 5)
            self.assertIsInstance(inspect.getattr_static(Stair, name), property)

    def test_repr(self):
        self.assertEqual(repr(Stair(1, [(1, 2), (0, 1)])), "Stair(1, [(0, 1), (1, 2)])")
        self.assertEqual(repr(Stair(10, ())), "Stair(10, [])")
        self.assertEqual(repr(Stair(4, ((0, 5),))), "Stair(4, [(0, 5)])")
        for stair in some_stairs():
            self.assertEqual(eval(repr(stair)), stair)
            self.assertEqual(str(stair), repr(stair))


class Holding(unittest.TestCase):
    def test_each_thing_is_in_it(self):
        for stair in some_stairs():
            for thing in stair.things():
                self.assertIs(thing in stair, True)

    def test_what_is_near_a_thing_is_not_in_it(self):
        stair = Stair(3, [(0, 1), (1, 3), (3, 4)])
        for value in (0, 4, -1, 10 ** 29, "", "foot", "feet ", "FEET", b"feet", "1", (0, 2), (1, 0), (0, 1, 3), (0,),
                      (), [0, 1], ["feet"], ("feet",), (0, "1"), ("0", "1"), ((0, 1),), (0, None), (4, 5), (-1, 0)):
            self.assertIs(value in stair, False, value)

    def test_true_and_false_are_no_numbers(self):
        stair = Stair(2, [(0, 1), (1, 3)])
        for value in (True, False, (0, True), (False, 1), (False, True), (True, 3)):
            self.assertIs(value in stair, False, value)

    def test_values_of_any_kind(self):
        stair = Stair.of(3, 1, 2)
        for value in odd_values():
            self.assertIs(value in stair, isinstance(value, str) and value == "feet")
            self.assertIs((0, value) in stair, False)
            self.assertIs((value, 1) in stair, False)


class Calling(unittest.TestCase):
    def test_each_way(self):
        for stair in some_stairs():
            for way in plain_ways(stair):
                self.assertIs(stair(way), True)
        self.assertIs(Stair(1, [(0, 2)])(value=(0, 2)), True)

    def test_what_is_near_a_way(self):
        stair = Stair(3, [(0, 1), (0, 3), (1, 2), (1, 4), (2, 4)])
        for value in ((0, 1, 3, 4), (0, 2, 4), (0, 3, 4), (0, 4), (0, 1), (0,), (4,), (), (1, 4), (1, 2, 4), (0, 3),
                      (0, 1, 1, 4), (0, 1, 2, 1, 4), (0, 0, 1, 4), (0, 1, 4, 4), (0, 1, 4, 5), (-1, 0, 1, 4), "014",
                      [0, 1, 4], (0, "1", 4), (0, (1,), 4), (0, None, 4), ((0, 1), (1, 4)), {0: 1, 1: 4}, 4, "feet"):
            self.assertIs(stair(value), False, value)

    def test_true_and_false_are_no_places(self):
        stair = Stair.of(1, 1, 2)
        for value in ((False, 2), (0, True, 2), (False, True, 2), (False, 1, 2)):
            self.assertIs(stair(value), False, value)

    def test_values_of_any_kind(self):
        stair = Stair.of(2, 1, 2, 3)
        for value in odd_values():
            for other in (value, (value,), (0, value), (value, 3), (0, value, 3), (0, 1, value)):
                self.assertIs(stair(other), False)


class Equality(unittest.TestCase):
    def test_in_whatever_sequence_the_jumps_were_passed(self):
        one, other = Stair(3, [(0, 1), (1, 4)]), Stair(3, ((1, 4), (0, 1)))
        self.assertIs(one == other, True)
        self.assertIs(one != other, False)
        self.assertIs(Stair.of(3, 1, 2) == Stair.of(3, 2, 1), True)

    def test_other_steps_or_other_jumps(self):
        one = Stair(3, [(0, 1), (1, 4)])
        for other in (Stair(4, [(0, 1), (1, 4)]), Stair(3, [(0, 1)]), Stair(3, [(0, 1), (2, 4)]), Stair(3, [])):
            self.assertIs(one == other, False)
            self.assertIs(one != other, True)

    def test_values_of_another_kind(self):
        stair = Stair(1, [(0, 2)])
        for value in (repr(stair), stair.jumps(), (1, [(0, 2)]), stair.things(), 1, None, True, EqualToAll()):
            self.assertIs(stair == value, False)
            self.assertIs(stair != value, True)


class Copies(unittest.TestCase):
    def test_what_was_passed_is_not_changed_and_can_be_changed(self):
        jumps = [(1, 2), (0, 1)]
        stair = Stair(2, jumps)
        self.assertEqual(jumps, [(1, 2), (0, 1)])
        jumps.append((0, 3))
        jumps[0] = "other"
        self.assertEqual(stair, Stair(2, [(0, 1), (1, 2)]))

    def test_what_was_returned_can_be_changed(self):
        stair = Stair.of(2, 1)
        for returned in (stair.jumps, stair.things, stair.lengths):
            before = returned()
            returned().clear()
            returned().append("other")
            self.assertEqual(returned(), before)
            self.assertIsNot(returned(), returned())
        self.assertEqual(stair, Stair(2, [(0, 1), (1, 2), (2, 3)]))

    def test_repeated_calls_return_equal_results(self):
        stair = Stair.of(5, 2, 3)
        self.assertEqual(repr(stair), repr(stair))
        self.assertEqual((list(stair), stair.things()), (list(stair), stair.things()))


class Interface(unittest.TestCase):
    def test_all_that_is_listed_is_defined_in_the_class(self):
        for name in ("__init__", "MOST_STEPS", "MOST_JUMPS", "of", "steps", "head", "jumps", "things", "lengths",
                     "__len__", "__contains__", "__iter__", "__call__", "__add__", "__sub__", "__or__", "__and__",
                     "is_part_of", "__eq__", "__repr__"):
            self.assertIn(name, vars(Stair))
        self.assertIsInstance(vars(Stair)["of"], staticmethod)
        self.assertEqual(Stair.__module__, "wornsteps.stairs")

    def test_parameters(self):
        self.assertEqual(list(inspect.signature(Stair).parameters), ["steps", "jumps"])
        self.assertEqual(str(inspect.signature(Stair.of)), "(steps, *lengths)")
        self.assertEqual(list(inspect.signature(Stair.is_part_of).parameters), ["self", "other"])
        self.assertEqual(list(inspect.signature(Stair.__call__).parameters), ["self", "value"])


if __name__ == "__main__":
    unittest.main()
