"""Lists of exchanges that lead from one crowd to another, done one by one."""

import random
import unittest

from tests.samples import EqualToAll, chance_ways, large_stair, odd_values, plain_ways, small_stairs, some_feet
from wornsteps.crowds import Crowd
from wornsteps.errors import OtherStair, StairError, StateError, MissingError, TooMany
from wornsteps.flows import are_exchanges, exchanges, split
from wornsteps.stairs import Stair


def three():
    return Stair.of(3, 1, 2)


def done(crowd, rows):
    """The crowd behind exchanges, done one by one."""
    for row in rows:
        crowd = crowd.exchanged(*row)
    return crowd


def chance_exchanges(chance, crowd, many):
    """A crowd behind exchanges of chance, and their list."""
    rows = []
    for _ in range(many):
        one, other = chance.choice(list(crowd)), chance.choice(list(crowd))
        shared = set(one[1:-1]) & set(other[1:-1])
        if shared and one != other:
            row = (one, other, chance.choice(sorted(shared)), chance.randint(1, min(crowd[one], crowd[other])))
            try:
                crowd = crowd.exchanged(*row)
                rows.append(row)
            except TooMany:
                pass
    return crowd, rows


class Leading(unittest.TestCase):
    def check(self, one, other):
        rows = exchanges(one, other)
        if one.flow() != other.flow():
            self.assertIsNone(rows)
            return
        self.assertIs(type(rows), list)
        self.assertLessEqual(len(rows), 2000)
        self.assertTrue(all(type(row) is tuple and len(row) == 4 for row in rows))
        self.assertEqual(done(one, rows), other)
        self.assertIs(are_exchanges(one, other, rows), True)
        self.assertEqual(exchanges(one, other), rows)

    def test_all_pairs_of_small_crowds(self):
        chance = random.Random(1)
        for stair in small_stairs(7):
            crowds = [Crowd(stair, ways) for ways in some_feet(stair, 3 if len(plain_ways(stair)) < 6 else 2)]
            for one in crowds:
                self.check(one, one)
                for other in chance.sample(crowds, min(len(crowds), 12)):
                    self.check(one, other)
                for other in [other for other in crowds if other.flow() == one.flow()][:6]:
                    self.check(one, other)

    def test_large_crowds_of_sixty_feet(self):
        chance = random.Random(2)
        longest = 0
        for many in (1, 2, 5, 20, 60):
            for _ in range(6):
                ways = {}
                for _ in range(60 // many):
                    way = chance.choice(plain_ways(large_stair()))
                    ways[way] = ways.get(way, 0) + many
                one = Crowd(large_stair(), ways)
                other, rows = chance_exchanges(chance, one, 200)
                self.assertIs(are_exchanges(one, other, rows), True)
                for target in (other, split(large_stair(), one.flow())):
                    self.check(one, target)
                    self.check(target, one)
                    longest = max(longest, len(exchanges(one, target)))
        self.assertGreater(longest, 20)

    def test_another_flow(self):
        one = Crowd.of(three(), (0, 2, 4))
        for other in (Crowd(three()), one + one, Crowd.of(three(), (0, 1, 2, 4)), one + (0, 1, 3, 4)):
            self.assertEqual((exchanges(one, other), exchanges(other=one, one=other)), (None, None))
            self.assertIs(are_exchanges(one, other, []), False)
        self.assertEqual(exchanges(Crowd(three()), Crowd(three())), [])

    def test_sixty_feet_and_more(self):
        sixty, more = Crowd(three(), {(0, 2, 4): 60}), Crowd(three(), {(0, 2, 4): 61})
        self.assertEqual(exchanges(sixty, sixty), [])
        for one, other in ((sixty, more), (more, sixty), (more, more), (more, Crowd(three()))):
            with self.assertRaises(TooMany) as caught:
                exchanges(one, other)
            self.assertEqual((caught.exception.what, caught.exception.limit), ("feet", 60))

    def test_other_stairs(self):
        one, other = Crowd(three(), {(0, 2, 4): 61}), Crowd(three() - (0, 1))
        for action in (lambda: exchanges(one, other), lambda: are_exchanges(one, other, None)):
            with self.assertRaises(OtherStair) as caught:
                action()
            self.assertEqual((caught.exception.one, caught.exception.other), (one.stair, other.stair))


class Right(unittest.TestCase):
    def is_right(self, one, other, rows):
        """Whether a list of tuples of four can be done, and leads there."""
        try:
            return done(one, rows) == other
        except (StairError, StateError, MissingError, TooMany):
            return False

    def test_lists_near_right_ones(self):
        chance = random.Random(3)
        seen = []
        for stair in (three(), Stair.of(4, 1, 2, 3), large_stair()):
            for _ in range(40):
                one = Crowd(stair, chance_ways(chance, stair, 6, 4))
                other, rows = chance_exchanges(chance, one, 6)
                for k, (first, second, step, many) in enumerate(rows):
                    near = [(second, first, step, many), (first, second, step, many + 1),
                            (first, second, step, many - 1), (first, second, step + 1, many),
                            (first, second, step - 1, many), (first, first, step, many),
                            (first, chance.choice(plain_ways(stair)), step, many)]
                    for row in near:
                        changed = rows[:k] + [row] + rows[k + 1:]
                        seen.append(self.is_right(one, other, changed))
                        self.assertIs(are_exchanges(one, other, changed), seen[-1])
                    for changed in (rows[:k], rows[:k] + rows[k + 1:], rows[:k] + rows[k:k + 1] + rows[k:]):
                        self.assertIs(are_exchanges(one, other, changed), self.is_right(one, other, changed))
                self.assertIs(are_exchanges(one, other, tuple(rows)), True)
                self.assertEqual(done(one, rows), other)
        self.assertEqual(set(seen), {True, False})

    def test_examples(self):
        one, other = Crowd.of(three(), (0, 1, 2, 3, 4), (0, 2, 4)), Crowd.of(three(), (0, 1, 2, 4), (0, 2, 3, 4))
        self.assertIs(are_exchanges(one, other, [((0, 1, 2, 3, 4), (0, 2, 4), 2, 1)]), True)
        self.assertIs(are_exchanges(value=[], one=one, other=one), True)
        again = [((0, 1, 2, 3, 4), (0, 2, 4), 2, 1), ((0, 1, 2, 4), (0, 2, 3, 4), 2, 1)]
        self.assertIs(are_exchanges(one, one, again * 400), True)
        self.assertEqual(one.ways(), {(0, 1, 2, 3, 4): 1, (0, 2, 4): 1})

    def test_more_than_sixty_feet(self):
        one = Crowd(three(), {(0, 1, 2, 3, 4): 10 ** 20, (0, 2, 4): 10 ** 20})
        rows = [((0, 1, 2, 3, 4), (0, 2, 4), 2, 10 ** 20)]
        self.assertIs(are_exchanges(one, done(one, rows), rows), True)
        self.assertIs(are_exchanges(one, one, rows), False)

    def test_more_than_sixty_ways_on_the_way(self):
        stair = large_stair()
        one, other = (0, 1, 5, 6, 10, 11), (0, 2, 5, 9, 11)
        made = [(0, 1, 5, 9, 11), (0, 2, 5, 6, 10, 11)]
        rest = [way for way in plain_ways(stair) if way not in (one, other, *made)]
        full = Crowd(stair, {one: 2, other: 2, **{way: 1 for way in rest[:58]}})
        there, back = [(one, other, 5, 1), (*made, 5, 1)], [(one, other, 5, 2), (*made, 5, 2)]
        self.assertIs(are_exchanges(full, full, there), False)
        self.assertIs(are_exchanges(full, full, back), True)

    def test_any_value(self):
        one, other = Crowd.of(three(), (0, 1, 2, 3, 4), (0, 2, 4)), Crowd.of(three(), (0, 1, 2, 4), (0, 2, 3, 4))
        right = ((0, 1, 2, 3, 4), (0, 2, 4), 2, 1)
        rows = odd_values() + [0, 1, right, {0: right}, {right: 1}, [list(right)], [right[:3]], [right + (1,)],
                               [[]], [()], [((0, 1, 2, 3, 4), (0, 2, 4), 2, 1), None]]
        for k in range(4):
            for wrong in odd_values() + [[1], (), (0, True, 2, 3, 4), (0, 1, 3, 4), [0, 2, 4], (0, 2, 5), -1, 0, 5,
                                         10 ** 29, (0, EqualToAll(), 4), ([0], 2, 4)]:
                if not (k == 3 and wrong is not True and wrong == 1 and isinstance(wrong, int)):
                    rows.append([right[:k] + (wrong,) + right[k + 1:]])
        for value in rows:
            self.assertIs(are_exchanges(one, other, value), False)
        self.assertIs(are_exchanges(one, other, [right]), True)


if __name__ == "__main__":
    unittest.main()
