"""Studies: their pairs and things, and what they refuse."""

import random
import unittest

from tests.samples import EqualToAll, all_jumps, large_stair, odd_values, plain_passed, plain_ways, some_stairs
from tests.test_crowds_wrong import Refusals
from wornsteps.errors import InvalidHabits, NoSuch, TooMany
from wornsteps.habits import Habit, JustOnce, Study, Without
from wornsteps.stairs import Stair


def three():
    return Stair.of(3, 1, 2)


def chance_habits(chance):
    """A dict of one to three names to habits of all classes."""
    found = {}
    for name in chance.sample(["a", "b", "once", "plain", "zzzzzzzz", "foot"], chance.randint(1, 3)):
        moves = {(chance.randint(0, 2), chance.randint(1, 11)): chance.randint(0, 2) for _ in range(14)}
        found[name] = chance.choice([Without(*chance.sample(range(1, 12), chance.randint(0, 8))),
                                     JustOnce(chance.randint(1, 4)), Habit(moves, chance.sample([0, 1, 2], 2))])
    return found


def plain_pairs(stair, habits):
    """The sorted pairs, by calling each habit for each way."""
    return sorted((name, way) for name, habit in habits.items() for way in plain_ways(stair) if habit(way))


def some_studies():
    """Rows of a stair and habits with at most sixty pairs."""
    chance = random.Random(6)
    rows = [(three(), {"once": JustOnce(2)}), (three(), {"plain": Without(2), "once": JustOnce(2)}),
            (Stair(1, []), {"a": Without()}), (Stair(2, [(0, 3)]), {"a": Without(3), "b": Without()})]
    for stair in some_stairs():
        habits = chance_habits(chance)
        if len(plain_pairs(stair, habits)) <= 60:
            rows.append((stair, habits))
    return rows


class Telling(unittest.TestCase):
    def test_pairs_and_things(self):
        for stair, habits in some_studies():
            study = Study(stair, habits)
            pairs = plain_pairs(stair, habits)
            self.assertEqual((study.pairs(), len(study), study.stair), (pairs, len(pairs), stair))
            self.assertEqual(study.things(), stair.things() + sorted(habits))
            self.assertEqual((study.habits(), list(study.habits())), (habits, sorted(habits)))
            for pair in pairs:
                self.assertIs(pair in study, True)
                self.assertEqual(study.passed(pair), plain_passed(stair, pair[1]) + [pair[0]])
        self.assertGreater(max(len(plain_pairs(*row)) for row in some_studies()), 30)

    def test_examples_and_names(self):
        study = Study(habits={"once": JustOnce(2)}, stair=three())
        self.assertEqual(study.pairs(), [("once", (0, 1, 2, 4)), ("once", (0, 1, 3, 4)), ("once", (0, 2, 3, 4))])
        self.assertEqual(study.passed(pair=("once", (0, 2, 3, 4))), ["feet", 2, 3, (0, 2), (2, 3), (3, 4), "once"])
        self.assertEqual((Study.MOST_PAIRS, Study.MOST_MARKS), (60, 8))

    def test_what_was_passed_and_returned_can_be_changed(self):
        habits = {"once": JustOnce(2)}
        study = Study(three(), habits)
        habits["plain"] = Without()
        for rows in (study.habits(), study.pairs(), study.things(), study.passed(study.pairs()[0])):
            rows.clear()
        self.assertEqual((len(study), len(study.pairs()), list(study.habits())), (3, 3, ["once"]))
        self.assertEqual(len(study.passed(("once", (0, 1, 2, 4)))), 7)

    def test_sixty_pairs_and_more(self):
        jumps = all_jumps(5)[:-1]
        found = set()
        for stair in (Stair(5, jumps), Stair.of(5, 1, 2, 3, 4, 5), Stair.of(9, 1, 2), Stair.of(8, 1, 2), large_stair(),
                      Stair(6, [(0, 1), (0, 2), *[(i, j) for i, j in all_jumps(6) if i and j < 7], (5, 7), (6, 7)])):
            for habits in ({"a": Without()}, {"a": Without(1)}, {"a": Without(), "b": JustOnce(2)},
                           {"a": Without(), "b": Without(), "c": JustOnce(1)}, {"a": Without(), "b": Without(3)}):
                many = len(plain_pairs(stair, habits))
                found.add((many > 60) - (many < 60))
                if many > 60:
                    with self.assertRaises(TooMany) as caught:
                        Study(stair, habits)
                    self.assertEqual((caught.exception.what, caught.exception.limit), ("pairs", 60))
                else:
                    self.assertEqual(len(Study(stair, habits)), many)
        self.assertLessEqual({-1, 1}, found)

    def test_just_sixty_pairs_and_one_more(self):
        twos = [(i, j) for i, j in all_jumps(9) if j - i <= 2]
        stair = Stair(4, all_jumps(4))
        rows = [{"a": Without(), "b": Without(), "c": Without()}]
        self.assertEqual([len(plain_pairs(stair, habits)) for habits in rows], [48])
        alone = Stair(8, [(i, j) for i, j in twos if j <= 9])
        self.assertEqual(len(plain_ways(alone)), 55)
        sixty = Stair(8, [(i, j) for i, j in twos if j <= 9] + [(0, 5)])
        self.assertEqual(len(plain_ways(sixty)), 60)
        self.assertEqual(len(Study(sixty, {"a": Without()})), 60)
        with self.assertRaises(TooMany):
            Study(sixty + (0, 9), {"a": Without()})
        with self.assertRaises(TooMany):
            Study(sixty, {"a": Without(), "b": Habit({(0, 5): 1, (1, 1): 1}, [1])})


class Wrong(Refusals):
    def test_habits(self):
        rows = [value for value in odd_values() if not isinstance(value, dict)] + [{}, [], (), JustOnce(2), ["a"]]
        names = [value for value in odd_values() if not isinstance(value, (list, set, dict))] + [
            "", "feet", "A", "a1", "a b", "abcdefghi", "once ", "a-b", "Once", 1, (), ("a",), "foot\n"]
        for name in names:
            try:
                rows += [{name: JustOnce(2)}, {"b": JustOnce(2), name: JustOnce(2)}]
            except TypeError:
                pass  # Such a value can be no key.
        rows = [row for row in rows if not isinstance(row, dict) or set(map(repr, row)) != {"'b'"}]
        rows += [{"a": value} for value in odd_values() + [0, {(0, 1): 0}, JustOnce]]
        rows += [{name: JustOnce(2) for name in "abcd"}]
        for habits in rows:
            self.refused(InvalidHabits, habits, Study, three(), habits)
            self.refused(InvalidHabits, habits, Study, large_stair(), habits)

    def test_any_value_as_a_pair(self):
        study = Study(Stair(2, [(0, 1), (0, 2), (1, 2), (2, 3)]), {"once": JustOnce(2), "plain": Without(2)})
        self.assertEqual(study.pairs(), [("once", (0, 2, 3)), ("plain", (0, 1, 2, 3))])
        rows = odd_values() + [1, (), [], ("once",), ["once", (0, 2, 3)], ("once", [0, 2, 3]), ("once", (0, 1, 2, 3)),
                               ("plain", (0, 2, 3)), ("other", (0, 2, 3)), (0, 2, 3), ((0, 2, 3), "once"),
                               ("plain", (0, True, 2, 3)), ("plain", (False, 1, 2, 3)), ("once", (0, 2, 3), 1),
                               ("once", "feet"), ("once", None), (None, (0, 2, 3)), ("once", (0, EqualToAll(), 3)),
                               ("once", {0: 1}), (EqualToAll(), (0, 2, 3)), ("once", ([0], 2, 3))]
        for value in rows:
            self.assertIs(value in study, False)
            self.refused(NoSuch, value, study.passed, value)


if __name__ == "__main__":
    unittest.main()
