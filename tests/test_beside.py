"""What stairs show, own ways and partings, stairs beside one another and bare stairs, by the test's own partings."""

import random
import unittest

from tests.samples import (EqualToAll, all_jumps, large_stair, odd_values, plain_ways, plain_wears, small_stairs,
                           some_feet, some_stairs)
from tests.test_crowds_wrong import Refusals
from tests.test_ways_wrong import stair as four_jumps
from tests.test_ways_wrong import wrong_ways
from wornsteps.beside import (are_alike, bare, can_show, first_apart, first_lacking, is_own, is_parting, own_ways,
                              parting, showing, shows_within)
from wornsteps.crowds import Crowd
from wornsteps.errors import InvalidCount, InvalidWay, OtherSteps
from wornsteps.stairs import Stair

BIG = 10 ** 29


def plain_parting(sets, steps):
    """Ways that share none and have together just some steps, found by trying; None if there are none."""
    if not steps:
        return []
    for part, way in sets.items():
        if min(steps) in part and part <= steps:
            rest = plain_parting(sets, steps - part)
            if rest is not None:
                return [way] + rest
    return None


def step_sets(stair):
    """The dict from the sets of steps of ways with steps to the ways."""
    return {frozenset(way[1:-1]): way for way in plain_ways(stair) if len(way) > 2}


def plain_own(stair):
    """The sorted list of the own ways, by trying all partings into two or more ways."""
    sets = step_sets(stair)
    rows = []
    for steps, way in sets.items():
        smaller = {part: other for part, other in sets.items() if part < steps}
        if plain_parting(smaller, steps) is None:
            rows.append(way)
    return sorted(rows)


def drawn_stairs(many):
    """Pairs of stairs of as many steps, most of which have many jumps in common."""
    chance = random.Random(71)
    rows = []
    for steps in range(1, 7):
        for _ in range(many):
            jumps = all_jumps(steps)
            one = Stair(steps, chance.sample(jumps, chance.randint(len(jumps) // 3, len(jumps))))
            kept = [jump for jump in one.jumps() if chance.random() < 0.9]
            other = Stair(steps, kept + [jump for jump in jumps if jump not in one.jumps() and chance.random() < 0.1])
            rows.append((one, other))
    return rows


def shows_once(stair, way):
    """Whether a stair shows the steps of a way, each once."""
    return plain_parting(step_sets(stair), frozenset(way[1:-1])) is not None


def wears_of(stair, crowd):
    """How often a crowd wears each step."""
    worn = plain_wears(stair, crowd.ways())
    return {step: worn[step] for step in range(1, stair.head)}


def wears_shown(stair, most):
    """All wears, as sorted tuples, that crowds of a stair with at most so many feet show."""
    return {tuple(sorted(wears_of(stair, Crowd(stair, ways)).items())) for ways in some_feet(stair, most)}


class Showing(unittest.TestCase):
    def check(self, stair, wears, expected):
        self.assertIs(can_show(stair, wears), expected)
        crowd = showing(stair, wears)
        self.assertIs(crowd is not None, expected)
        if expected:
            self.assertEqual(crowd.stair, stair)
            self.assertLessEqual(len(crowd), 60)
            self.assertEqual({step: many for step, many in wears_of(stair, crowd).items() if many},
                             {step: many for step, many in wears.items() if many})
            self.assertEqual(showing(stair, dict(reversed(list(wears.items())))), crowd)

    def test_small_stairs_against_all_crowds(self):
        chance = random.Random(72)
        seen = set()
        for stair in small_stairs(5):
            # A foot with a step wears at least one step: five feet are enough for wears of five together.
            shown = wears_shown(stair, 5)
            for _ in range(20):
                wears = {step: 0 for step in range(1, stair.head)}
                for _ in range(chance.randint(0, 5)):
                    wears[chance.randint(1, stair.steps)] += 1
                expected = tuple(sorted(wears.items())) in shown
                seen.add(expected)
                told = {step: many for step, many in wears.items() if many or chance.random() < 0.5}
                self.check(stair, told, expected)
        self.assertEqual(seen, {True, False})

    def test_great_numbers(self):
        chance = random.Random(73)
        for stair in some_stairs() + [large_stair()] * 6:
            ways = plain_ways(stair)
            chosen = {way: chance.choice([1, 10 ** 15, BIG]) for way in chance.sample(ways, min(20, len(ways)))}
            worn = {step: many for step, many in plain_wears(stair, chosen).items() if isinstance(step, int)}
            self.check(stair, worn, True)
            for step in worn:
                if not [way for way in ways if step in way]:
                    self.check(stair, {**worn, step: 1}, False)
            one = Stair.of(stair.steps, 1)
            self.check(one, {step: BIG for step in range(1, stair.head)}, True)
            self.check(one, {step: BIG + (step == 1) for step in range(1, stair.head)}, stair.steps == 1)

    def test_steps_left_out(self):
        stair = Stair.of(2, 1, 2)
        self.assertEqual([can_show(stair - (0, 1), {2: 4}), can_show(stair - (0, 1), {1: 1})], [True, False])
        self.assertEqual(showing(wears={2: 4}, stair=stair), Crowd(stair, {(0, 2, 3): 4}))
        self.check(stair, {}, True)
        self.assertEqual(showing(stair, {}), Crowd(stair))
        self.check(Stair(2, []), {1: 0, 2: 0}, True)
        self.check(Stair(2, []), {1: 1}, False)
        self.assertIs(can_show(wears={1: BIG}, stair=Stair(1, [(0, 1), (1, 2)])), True)


class OwnWays(unittest.TestCase):
    def test_against_all_partings(self):
        found = []
        for one, other in drawn_stairs(12):
            for stair in (one, other):
                ways = plain_own(stair)
                self.assertEqual(own_ways(stair), ways)
                for way in plain_ways(stair):
                    self.assertIs(is_own(stair, way), way in ways)
                    found.append(len(parting(stair, way)))
                    self.check_parting(stair, way, ways)
        self.assertLessEqual({0, 1, 2, 3}, set(found))

    def check_parting(self, stair, way, ways):
        """The parting of a way has own ways alone, and just its steps; whether it is one is told rightly."""
        rows = parting(stair, way)
        self.assertIs(type(rows), list)
        self.assertEqual(rows, sorted(rows))
        self.assertEqual([row for row in rows if row not in ways], [])
        self.assertEqual(sorted(step for row in rows for step in row[1:-1]), list(way[1:-1]))
        self.assertEqual(parting(stair, way), rows)
        for value, right in ((rows, True), (tuple(rows), True), ([way], len(way) > 2), (rows[1:], not rows),
                             (rows[::-1], len(rows) < 2), (rows + rows, not rows), (rows + [(0, stair.head)], False),
                             (rows + [rows], False), ([list(row) for row in rows], not rows)):
            self.assertIs(is_parting(stair, way, value), right, (stair, way, value))

    def test_large_stairs(self):
        for stair in some_stairs():
            ways = own_ways(stair)
            self.assertEqual(ways, sorted(ways))
            for way in random.Random(74).sample(plain_ways(stair), min(25, len(plain_ways(stair)))):
                self.assertIs(is_own(stair, way), way in ways)
                self.check_parting(stair, way, ways)
        # Only one way can end, and only one can begin with step 1: none of these steps can be left to another way.
        self.assertEqual(own_ways(Stair.of(10, 1, 2))[:1], [(0, 1, 2, 3, 4, 5, 6, 7, 8, 9, 11)])

    def test_ways_without_steps(self):
        stair = Stair.of(2, 1, 2, 3)
        self.assertEqual((parting(stair, (0, 3)), is_own(stair, (0, 3)), is_parting(stair, (0, 3), [])),
                         ([], False, True))
        self.assertEqual([is_parting(stair, (0, 3), value) for value in ([(0, 3)], [()], None, (), {})],
                         [False, False, False, True, False])
        self.assertEqual(own_ways(stair), [(0, 1, 3), (0, 2, 3)])
        self.assertEqual([own_ways(each) for each in (Stair(1, [(0, 2)]), Stair(3, []), Stair(2, [(0, 1), (1, 2)]))],
                         [[], [], []])

    def test_examples_and_names(self):
        stair = Stair.of(2, 1, 2)
        self.assertEqual([own_ways(stair=stair), parting(way=(0, 1, 2, 3), stair=stair)],
                         [[(0, 1, 3), (0, 2, 3)], [(0, 1, 3), (0, 2, 3)]])
        self.assertEqual(own_ways(stair - (0, 2)), [(0, 1, 2, 3), (0, 1, 3)])
        self.assertIs(is_own(way=(0, 1, 2, 3), stair=stair), False)
        self.assertIs(is_parting(value=[(0, 1, 2, 3)], way=(0, 1, 2, 3), stair=stair), True)

    def test_values_near_partings_and_of_all_kinds(self):
        stair = Stair.of(4, 1, 2)
        way = (0, 1, 2, 3, 4, 5)
        self.assertEqual(parting(stair, way), [(0, 1, 3, 5), (0, 2, 4, 5)])
        right = [(0, 1, 3, 5), (0, 2, 4, 5)]
        self.assertIs(is_parting(stair, way, right), True)
        rows = odd_values() + [0, [], (), right[:1], right[1:], right[::-1], right + right, [right], {way: 1}, way,
                               [(0, 1, 3, 5), (0, 2, 3, 5)], [(0, 1, 3, 5), [0, 2, 4, 5]], [(1, 3), (2, 4)],
                               [(0, True, 3, 5), (0, 2, 4, 5)], [(0, 1, 3, 5), (0, 2, 4, 5), None],
                               [EqualToAll(), (0, 2, 4, 5)], [(0, 1, 3, 5), (0, 2, 4, 5), (0, 2, 4, 5)],
                               [(0, 1, 3, 4, 5), (0, 2, 4, 5)], [(0, 1, 3, 5), (0, 2, 4, 6)], ["0135", "0245"]]
        for value in rows:
            self.assertIs(is_parting(stair, way, value), False, value)
        self.assertEqual(right, [(0, 1, 3, 5), (0, 2, 4, 5)])


class Beside(unittest.TestCase):
    def test_against_own_ways(self):
        seen = set()
        for one, other in drawn_stairs(25):
            for first, second in ((one, other), (other, one), (one, one)):
                ways, others = plain_own(first), plain_own(second)
                lacking = [way for way in ways if not shows_once(second, way)]
                self.assertEqual(first_lacking(first, second), lacking[0] if lacking else None)
                self.assertIs(shows_within(first, second), not lacking)
                apart = sorted(set(ways) ^ set(others))
                self.assertEqual(first_apart(first, second), apart[0] if apart else None)
                self.assertIs(are_alike(first, second), not apart)
                self.assertEqual(not apart, shows_within(first, second) and shows_within(second, first))
                seen.add((not lacking, not apart, first == second))
        self.assertEqual(len(seen), 4)

    def test_one_way_whose_steps_are_shared_among_others(self):
        # The other stair has the jumps of ways that share the steps, in whatever pairs the first way has them, and few
        # jumps more, or less.
        chance = random.Random(75)
        seen = {True: 0, False: 0}
        for _ in range(600):
            many = chance.randint(3, 8)
            steps = sorted(chance.sample(range(1, many + 1), chance.randint(2, many)))
            way = (0, *steps, many + 1)
            groups = [[] for _ in range(chance.randint(2, 3))]
            for step in steps:
                chance.choice(groups).append(step)
            parts = [(0, *group, many + 1) for group in groups if group]
            jumps = {jump for part in parts for jump in zip(part, part[1:])}
            kept = [jump for jump in sorted(jumps) if chance.random() < 0.95]
            more = chance.sample([jump for jump in all_jumps(many) if jump[0] and jump[1] <= many], 3)
            one, other = Stair(many, list(zip(way, way[1:]))), Stair(many, sorted({*kept, *more}))
            expected = shows_once(other, way)
            seen[expected] += 1
            self.assertEqual(first_lacking(one, other), None if expected else way)
            self.assertIs(can_show(other, {step: 1 for step in steps}), expected)
        self.assertGreater(min(seen.values()), 100)

    def test_against_the_wears_that_they_show(self):
        seen = set()
        for one, other in [pair for pair in drawn_stairs(10) if pair[0].steps <= 3]:
            shown, there = wears_shown(one, 3), wears_shown(other, 6)
            self.assertIs(shows_within(one, other), shown <= there)
            seen.add(shown <= there)
        self.assertEqual(seen, {True, False})

    def test_the_first_one_that_lacks_is_not_shown(self):
        for one, other in drawn_stairs(10) + [(large_stair(), large_stair() - jump) for jump in large_stair()]:
            way = first_lacking(one, other)
            if way is not None:
                self.assertIs(can_show(other, {step: 1 for step in way[1:-1]}), False)
                self.assertIs(can_show(one, {step: 1 for step in way[1:-1]}), True)
            for way in own_ways(one)[::40]:
                shown = can_show(other, {step: 1 for step in way[1:-1]})
                self.assertTrue(shown or first_lacking(one, other) <= way)

    def test_fewest_steps_of_ways_that_are_own_to_one(self):
        for one, other in drawn_stairs(20):
            apart = set(own_ways(one)) ^ set(own_ways(other))
            for way in [way for way in apart if len(way) == min(map(len, apart))]:
                steps = {step: 1 for step in way[1:-1]}
                self.assertNotEqual(can_show(one, steps), can_show(other, steps))

    def test_bare_stairs(self):
        for one, other in drawn_stairs(15):
            stair = bare(one)
            self.assertIs(type(stair), Stair)
            self.assertEqual(stair.jumps(), sorted({jump for way in plain_own(one) for jump in zip(way, way[1:])}))
            self.assertEqual((are_alike(stair, one), bare(stair), own_ways(stair)), (True, stair, own_ways(one)))
            for jump in stair.jumps():
                self.assertIs(are_alike(stair - jump, one), False)
            if are_alike(one, other):
                self.assertTrue(stair.is_part_of(other) and bare(other) == stair)
        self.assertEqual(bare(Stair(2, [(0, 3), (0, 1)])), Stair(2, []))
        self.assertEqual(bare(stair=Stair.of(2, 1, 2)).jumps(), [(0, 1), (0, 2), (1, 3), (2, 3)])
        self.assertTrue(are_alike(bare(large_stair()), large_stair()))

    def test_examples_and_names(self):
        stair = Stair.of(2, 1, 2)
        self.assertEqual([are_alike(stair, bare(stair)), first_lacking(stair, stair - (0, 2))], [True, (0, 2, 3)])
        self.assertIs(are_alike(other=stair, one=stair), True)
        self.assertIs(shows_within(other=stair, one=stair - (0, 2)), True)
        self.assertEqual(first_lacking(other=stair - (0, 2), one=stair), (0, 2, 3))
        self.assertEqual(first_apart(other=stair - (0, 2), one=stair), (0, 1, 2, 3))

    def test_other_steps(self):
        one, other = Stair.of(2, 1, 2), Stair(3, [])
        for action in (shows_within, first_lacking, are_alike, first_apart):
            for first, second in ((one, other), (other, one)):
                with self.assertRaises(OtherSteps) as caught:
                    action(first, second)
                self.assertEqual((caught.exception.one, caught.exception.other), (first.steps, second.steps))


class Wrong(Refusals):
    def test_wears(self):
        rows = [value for value in odd_values() if not isinstance(value, dict)] + [0, [], (), [(1, 1)], "1"]
        for key in (True, False, 0, 3, -1, "feet", "1", (0, 1), (1,), None, b"1", EqualToAll(), 1j + 1):
            rows.append({2: 1, key: 1})
        for number in odd_values() + [-1, -BIG, [1], (1, 1), "0"]:
            rows += [{1: number}, {2: 1, 1: number}]
        for wears in rows:
            self.refused(InvalidCount, wears, can_show, four_jumps(), wears)
            self.refused(InvalidCount, wears, showing, four_jumps(), wears)

    def test_ways(self):
        for way in wrong_ways():
            self.refused(InvalidWay, way, is_own, four_jumps(), way)
            self.refused(InvalidWay, way, parting, four_jumps(), way)
            self.refused(InvalidWay, way, is_parting, four_jumps(), way, None)


if __name__ == "__main__":
    unittest.main()
