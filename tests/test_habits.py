"""Habits, read beside a machine of the test's own, and what they refuse."""

import itertools
import random
import unittest

from tests.samples import EqualToAll, odd_values
from tests.test_crowds_wrong import Refusals
from wornsteps.errors import InvalidEnds, InvalidLengths, InvalidMoves, InvalidWay, TooMany
from wornsteps.habits import Habit, JustOnce, Without

LENGTHS = range(1, 12)


def run(moves, lengths):
    """The state behind some lengths; None if one is barred."""
    state = 0
    for length in lengths:
        if state is not None:
            state = moves[state, length] if (state, length) in moves else None
    return state


def short_rows():
    """All rows of up to three lengths, and some longer ones."""
    rows = [list(row) for many in range(4) for row in itertools.product(LENGTHS, repeat=many)]
    return rows + [[1] * 11, [2, 3, 1, 2], [1, 2, 1, 2, 1], [1, 1, 1, 1, 2, 2, 2]]


def some_habits():
    """Rows of moves and ends."""
    chance = random.Random(3)
    rows = [({}, [0]), ({(0, 1): 0}, [0]), ({(0, 1): 1, (1, 1): 2, (2, 1): 0}, (2, 0)), ({(0, 1): 1}, [0]),
            ({(2, 5): 1}, [2, 1, 0])]
    for _ in range(12):
        moves = {(chance.randint(0, 2), chance.randint(1, 4)): chance.randint(0, 2) for _ in range(12)}
        rows.append((moves, chance.sample([0, 1, 2], chance.randint(1, 3))))
    return rows


def way_of(lengths):
    return tuple(itertools.accumulate([0, *lengths]))


class Reading(unittest.TestCase):
    def check(self, habit, moves, ends, rows):
        for row in rows:
            state = run(moves, row)
            self.assertEqual((habit.reads(row), habit.reads(tuple(row))), (state, state))
            if row and sum(row) <= 11:
                self.assertIs(habit(way_of(row)), state in ends)

    def test_all_short_rows(self):
        rows = short_rows()
        for moves, ends in some_habits():
            self.check(Habit(moves, ends), moves, ends, rows)

    def test_without_some_lengths(self):
        for barred in ((), (2,), (2, 3), (1, 11), tuple(LENGTHS)):
            moves = {(0, length): 0 for length in LENGTHS if length not in barred}
            habit = Without(*barred)
            self.check(habit, moves, [0], short_rows())
            self.assertEqual((habit.moves(), habit.ends(), habit.barred), (moves, [0], sorted(barred)))
        self.assertEqual(Without(3, 1).barred, [1, 3])
        self.assertEqual((repr(Without(3, 1)), repr(Without())), ("Without(1, 3)", "Without()"))

    def test_just_once_a_length(self):
        for length in LENGTHS:
            habit = JustOnce(length)
            moves = {(state, other): state for state in (0, 1) for other in LENGTHS if other != length}
            moves[0, length] = 1
            self.check(habit, moves, [1], short_rows())
            self.assertEqual((habit.moves(), habit.ends(), habit.length), (moves, [1], length))
            self.assertEqual(repr(habit), f"JustOnce({length})")
        self.assertEqual(JustOnce(length=2).length, 2)

    def test_kinds(self):
        for habit in (Without(2), JustOnce(2)):
            self.assertIsInstance(habit, Habit)
            self.assertIsNot(type(habit), Habit)

    def test_examples(self):
        self.assertEqual((JustOnce(2)((0, 2, 3, 4)), JustOnce(2).reads([2, 1, 2])), (True, None))
        self.assertEqual((JustOnce(2)(way=(0, 1, 2)), JustOnce(2).reads(lengths=[])), (False, 0))


class Telling(unittest.TestCase):
    def test_moves_and_ends(self):
        for moves, ends in some_habits():
            habit = Habit(dict(reversed(list(moves.items()))), ends)
            self.assertEqual((habit.moves(), list(habit.moves()), habit.ends()), (moves, sorted(moves), sorted(ends)))
            self.assertEqual(repr(habit), f"Habit({dict(sorted(moves.items()))}, {sorted(ends)})")
            self.assertEqual(habit, Habit(ends=ends, moves=moves))
        self.assertEqual(repr(Habit({(0, 1): 0}, (0,))), "Habit({(0, 1): 0}, [0])")

    def test_what_was_passed_and_returned_can_be_changed(self):
        moves, ends = {(0, 1): 0}, [0]
        habit = Habit(moves, ends)
        barred = Without(2)
        moves.clear()
        ends.append(1)
        habit.moves().clear()
        habit.ends().clear()
        barred.barred.clear()
        barred.moves().clear()
        self.assertEqual((habit.moves(), habit.ends(), barred.barred, len(barred.moves())), ({(0, 1): 0}, [0], [2], 10))

    def test_equal(self):
        rows = [Habit({}, [0]), Habit({}, [1]), Habit({(0, 1): 0}, [0]), Habit({(0, 1): 1}, [0]), Without(2),
                Habit(Without(2).moves(), [0]), Without(2, 3), JustOnce(2), JustOnce(3),
                Habit(JustOnce(2).moves(), [1])]
        for k, one in enumerate(rows):
            self.assertEqual([one == other for other in rows], [at == k for at in range(len(rows))])
            self.assertEqual([one != other for other in rows], [at != k for at in range(len(rows))])
            for value in (None, one.moves(), repr(one), 0, len):
                self.assertIs(one == value, False)
        self.assertEqual((Without(3, 2), JustOnce(4)), (Without(2, 3), JustOnce(4)))


class Both(unittest.TestCase):
    def plain(self, one, other):
        """What both together have, by the document: the moves, the ends and how many states."""
        numbers, begun, moves = {(0, 0): 0}, [(0, 0)], {}
        for pair in begun:
            for length in LENGTHS:
                following = (one.moves().get((pair[0], length)), other.moves().get((pair[1], length)))
                if None not in following:
                    if following not in numbers:
                        numbers[following] = len(numbers)
                        begun.append(following)
                    moves[numbers[pair], length] = numbers[following]
        ends = sorted(numbers[pair] for pair in numbers if pair[0] in one.ends() and pair[1] in other.ends())
        return moves, ends, len(numbers)

    def test_all_pairs(self):
        rows = [Habit(*row) for row in some_habits()] + [Without(), Without(2), Without(1, 3), JustOnce(1), JustOnce(2)]
        seen = set()
        for one in rows:
            for other in rows:
                moves, ends, many = self.plain(one, other)
                if not ends:
                    seen.add("no end")
                    with self.assertRaises(InvalidEnds) as caught:
                        one & other
                    self.assertIsNone(caught.exception.position)
                elif many > 3:
                    seen.add("too many")
                    with self.assertRaises(TooMany) as caught:
                        one & other
                    self.assertEqual((caught.exception.what, caught.exception.limit), ("states", 3))
                else:
                    seen.add(many)
                    both = one & other
                    self.assertIs(type(both), Habit)
                    self.assertEqual((both.moves(), both.ends()), (moves, ends))
                    for row in short_rows()[1:300]:
                        if sum(row) <= 11:
                            way = way_of(row)
                            self.assertIs(both(way), one(way) and other(way))
        self.assertEqual(seen, {"no end", "too many", 1, 2, 3})

    def test_no_end_comes_ahead_of_too_many_states(self):
        circle = {(state, 1): (state + 1) % 3 for state in range(3)}
        one = Habit({**circle, **{(state, 2): state for state in range(3)}}, [0])
        turns = {(0, 1): 0, (1, 1): 1, (0, 2): 1, (1, 2): 0}
        with self.assertRaises(TooMany):
            one & Habit(turns, [0])
        with self.assertRaises(InvalidEnds) as caught:
            one & Habit(turns, [2])
        self.assertIsNone(caught.exception.position)

    def test_with_itself_and_with_one_that_bars_nothing(self):
        for habit in (JustOnce(2), Without(2), Habit({(0, 1): 1, (0, 2): 0, (1, 1): 2}, [2])):
            for both in (habit & habit, habit & Without(), Without() & habit):
                self.assertEqual(both, Habit(habit.moves(), habit.ends()))
        self.assertEqual(Without(2) & Without(3), Habit(Without(2, 3).moves(), [0]))

    def test_states_are_numbered_as_they_are_come_to(self):
        habit = Habit({(0, 1): 2, (0, 2): 1, (2, 1): 1}, [1])
        self.assertEqual(habit & Without(), Habit({(0, 1): 1, (0, 2): 2, (1, 1): 2}, [2]))


class Wrong(Refusals):
    def test_moves(self):
        rows = [value for value in odd_values() if not isinstance(value, dict)]
        rows += [0, [], (), [((0, 1), 0)], JustOnce(2)]
        keys = [0, "a", None, (), (0,), (0, 1, 2), (3, 1), (-1, 1), (0, 0), (0, 12), (True, 1), (False, 1), (0, True),
                ("0", 1), (0, "1"), (None, 1), ((0, 1),), (0, EqualToAll())]
        rows += [{(2, 2): 1, key: 0} for key in keys]
        rows += [{(0, 1): 0, (0, 2): state} for state in odd_values() + [3, -1, [0], (0,), [], ()]]
        for moves in rows:
            self.refused(InvalidMoves, moves, Habit, moves, [0])
            self.refused(InvalidMoves, moves, Habit, moves, [])

    def test_ends(self):
        rows = [(value, None) for value in odd_values() + [[], (), 0, 1, {0: 0}]]
        rows += [([value], 0) for value in odd_values() + [3, -1, [0], (0,)]]
        rows += [([0, 1, value], 2) for value in odd_values() + [3, -1, 0, 1, [0]]]
        rows += [((0, 0, 5), 1), ([3, 0, 0], 0), ([2, 1, 0, 0], 3)]
        for ends, position in rows:
            with self.assertRaises(InvalidEnds) as caught:
                Habit({}, ends)
            self.assertEqual(caught.exception.position, position)

    def test_rows_of_lengths(self):
        wrong = odd_values() + [0, 12, -1, [1], (1,)]
        rows = [(value, None) for value in odd_values() + [1, {1: 1}]]
        rows += [([value], 0) for value in wrong] + [((1, 1, value, value), 2) for value in wrong]
        for lengths, position in rows:
            for habit in (Habit({}, [0]), Without(1), JustOnce(1)):
                with self.assertRaises(InvalidLengths) as caught:
                    habit.reads(lengths)
                self.assertEqual(caught.exception.position, position)

    def test_lengths_of_the_classes(self):
        for value in odd_values() + [0, 12, -1, [1], (1,)]:
            with self.assertRaises(InvalidLengths) as caught:
                JustOnce(value)
            self.assertEqual(caught.exception.position, 0)
            with self.assertRaises(InvalidLengths) as caught:
                Without(2, 3, value, 2)
            self.assertEqual(caught.exception.position, 2)
        for lengths, position in (((2, 2), 1), ((1, 2, 1, 0), 2), ((0, 0), 0), (([1],), 0)):
            with self.assertRaises(InvalidLengths) as caught:
                Without(*lengths)
            self.assertEqual(caught.exception.position, position)

    def test_ways(self):
        rows = odd_values() + [1, (), (0,), [0, 1], (1, 2), (0, 0), (0, 2, 2), (0, 2, 1), (0, 12), (0, True),
                               (False, 1), (0, 1, "2"), (0, None), (0, [1]), (-1, 1), (0, 1, EqualToAll()), {0: 1},
                               ((0, 1),)]
        for way in rows:
            for habit in (Habit({}, [0]), Without(1), JustOnce(1)):
                self.refused(InvalidWay, way, habit, way)


if __name__ == "__main__":
    unittest.main()
