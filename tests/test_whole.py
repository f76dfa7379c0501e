"""The whole program around one hidden crowd: all that is told of marks that it fits lets it, behind each change."""

import random
import unittest

from tests.samples import large_stair, plain_total, plain_ways, plain_wears, small_stairs, some_stairs
from tests.test_blame import bounds_of
from tests.test_runs import plain_along, runs_of
from tests.test_scores import chance_score, total_of
from wornsteps.blame import clash_beside, helps, least_helps, mended, moments, sure_blamed
from wornsteps.beside import bare, can_show, own_ways, parting, showing
from wornsteps.claims import is_paper, is_true, paper_of
from wornsteps.crowds import Crowd
from wornsteps.desk import Desk
from wornsteps.errors import Endless, NothingToUndo
from wornsteps.fits import clash, does_fit, fitting, plain_clash
from wornsteps.flows import split
from wornsteps.marks import Marks
from wornsteps.measuring import best_measure, measured, two_crowds, width, width_prices
from wornsteps.narrowing import is_needless, is_tight, narrower, parts
from wornsteps.runs import along_range, crowd_on, short_paper
from wornsteps.scores import (best_crowd, best_prices, crowd_with, free_way, greatest, idle, known, least, only_crowd,
                              range_of, sure)
from wornsteps.texts import bytes_of, read_crowd, read_marks, text_of


def hidden_rows():
    """Marks, and the ways of a hidden crowd that fits them."""
    chance = random.Random(111)
    rows = []
    for stair in small_stairs(6) + some_stairs()[::3] + [large_stair()] * 2:
        ways = plain_ways(stair)
        many = chance.choice([3, 9, 10 ** 20])
        crowd = {way: chance.randint(1, many) for way in chance.sample(ways, min(len(ways), chance.randint(0, 6)))}
        worn = plain_wears(stair, crowd)
        told = {}
        for thing in chance.sample(stair.things(), chance.randint(0, len(stair.things()))):
            wear = worn[thing]
            told[thing] = chance.choice([(wear, wear), (max(0, wear - 1), wear + 2), (wear // 2, None), (0, wear)])
        rows.append((Marks(stair, told), crowd))
    return rows


def within(number, numbers):
    low, high = numbers
    return low <= number and (high is None or number <= high)


class Hidden(unittest.TestCase):
    def check(self, marks, ways, chance):
        """Nothing that is told of the marks is against the hidden crowd."""
        stair, crowd = marks.stair, Crowd(marks.stair, ways)
        worn = plain_wears(stair, ways)
        self.assertTrue(marks(crowd) and does_fit(marks) and fitting(marks) is not None)
        self.assertEqual((clash(marks), plain_clash(marks)), (None, None))
        for thing in chance.sample(stair.things(), min(4, len(stair.things()))):
            self.assertTrue(within(worn[thing], range_of(marks, thing)))
            self.assertTrue(measured(marks, thing, worn[thing])(crowd))
            self.assertEqual(crowd_with(marks, thing, worn[thing]).wear(thing), worn[thing])
            self.assertTrue(narrower(marks)[thing] == range_of(marks, thing))
            if is_needless(marks, thing):
                self.assertTrue(within(worn[thing], marks[thing]))
        self.assertTrue(narrower(marks)(crowd))
        self.assertEqual([thing for thing in sure(marks) if worn[thing] == 0], [])
        self.assertEqual([thing for thing in idle(marks) if worn[thing] > 0], [])
        self.assertEqual([thing for thing in known(marks) if range_of(marks, thing) != (worn[thing], worn[thing])], [])
        self.assertIn(only_crowd(marks), (None, crowd))
        self.check_scores(marks, ways, worn, chance)
        self.check_runs(marks, ways, chance)
        self.assertTrue(can_show(stair, {step: worn[step] for step in range(1, stair.head)}))
        self.assertIn([], mended(marks, 1))
        bounds = chance.sample(bounds_of(stair), 2)
        self.assertEqual((helps(marks, bounds), clash_beside(marks, bounds), least_helps(marks, bounds),
                          sure_blamed(marks, bounds)), (True, None, [[]], []))
        self.assertIs(is_true(("fits", marks)), True)
        self.assertIs(is_paper(("fits", marks), crowd), True)
        self.assertIs(is_true(("clash", marks)), False)

    def check_scores(self, marks, ways, worn, chance):
        score = chance_score(chance, marks.stair, [-5, -1, 1, 2])
        number = total_of(score, worn)
        self.assertIs(is_paper(("reaches", marks, score, number), Crowd(marks.stair, ways)), True)
        self.assertIs(is_true(("stays", marks, score, number - 1)), False)
        if free_way(marks, score) is None:
            self.assertGreaterEqual(greatest(marks, score), number)
            prices = best_prices(marks, score)
            dear = sum(plain_total(marks.stair, prices, way) * many for way, many in ways.items())
            self.assertGreaterEqual(dear, number)
            other = best_crowd(marks, score)
            thing = chance.choice(marks.stair.things())
            if worn[thing] == other.wear(thing):
                try:
                    self.assertGreaterEqual(width(marks, score, thing), greatest(marks, score) - number)
                except Endless:
                    pass  # Then no number is too great.
        if free_way(marks, {thing: -score[thing] for thing in score}) is None:
            self.assertLessEqual(least(marks, score), number)

    def check_runs(self, marks, ways, chance):
        runs = runs_of(marks.stair) if len(marks.stair) < 15 else [way[:3] for way in ways if len(way) > 2]
        for run in chance.sample(runs, min(2, len(runs))):
            many = plain_along(ways, run)
            self.assertTrue(within(many, along_range(marks, run)))
            self.assertIsNone(short_paper(marks, run, many))
            self.assertEqual(crowd_on(marks, run, many).along(run), many)
            self.assertIs(is_true(("not along", marks, run, many)), False)

    def change(self, desk, ways, chance):
        """Change a desk by something that the hidden crowd lets; the ways of the hidden crowd behind it."""
        stair = desk.marks.stair
        worn = plain_wears(stair, ways)
        thing = chance.choice(stair.things())
        kind = chance.randint(0, 5)
        if kind == 0:
            desk.measure(thing, worn[thing])
        elif kind == 1:
            desk.ease(chance.sample(bounds_of(stair), 2))
        elif kind == 2 and plain_ways(stair):
            way = chance.choice(plain_ways(stair))
            desk += Crowd(stair, {way: 2})
            ways = {**ways, way: ways.get(way, 0) + 2}
        elif kind == 3:
            desk.set_marks(narrower(desk.marks))
        elif kind == 4:
            low, high = range_of(desk.marks, thing)
            if worn[thing] != high:
                desk.set_marks(parts(desk.marks, thing, worn[thing])[0])
            elif worn[thing] > low:
                desk.set_marks(parts(desk.marks, thing, worn[thing] - 1)[1])
        else:
            desk[thing] = (worn[thing] // 2, worn[thing] + 1)
        return ways

    def test_behind_each_change(self):
        chance = random.Random(112)
        for marks, ways in hidden_rows():
            desk = Desk(marks)
            self.check(marks, ways, chance)
            states = []
            for _ in range(5):
                states.append((desk.marks, len(desk), ways))
                ways = self.change(desk, ways, chance)
                self.check(desk.marks, ways, chance)
            for before, many, ahead in reversed(states):
                while len(desk) > many:
                    desk.undo()
                self.assertEqual(desk.marks, before)
                self.assertTrue(desk.marks(Crowd(marks.stair, ahead)))
            with self.assertRaises(NothingToUndo):
                desk.undo()

    def test_told_feet_have_their_moments(self):
        for marks, ways in hidden_rows():
            row = [way for way, many in sorted(ways.items()) for _ in range(min(many, 3))]
            for step in range(1, marks.stair.head):
                # The whole row goes behind moment 0, none of it behind the last one.
                self.assertIn(0, moments(marks.stair, row, step, (sum(step in way for way in row),) * 2))
                self.assertIn(len(row), moments(marks.stair, row, step, (0, 0)))


class Alike(unittest.TestCase):
    def rows(self):
        """Rows of an action, and what it is called with."""
        for marks, ways in hidden_rows()[::4]:
            stair, score = marks.stair, {"feet": 1, 1: -2}
            bounded = marks.with_mark("feet", 0, 10 ** 21)
            none = marks.with_mark("feet", 0, 0).with_mark(1, 1)
            bounds = [("low", 1), ("high", "feet")]
            yield from (
                (fitting, marks), (narrower, marks), (is_tight, marks), (sure, marks), (idle, marks), (known, marks),
                (clash, none), (plain_clash, none), (least_helps, none, bounds), (sure_blamed, none, bounds),
                (clash_beside, none, []), (mended, none, 2), (best_measure, bounded, score), (own_ways, stair),
                (bare, stair), (showing, stair, {1: 0}), (text_of, marks), (bytes_of, Crowd(stair, ways)),
                (split, stair, Crowd(stair, ways).flow()), (paper_of, ("clash", none)),
                (paper_of, ("same", stair, stair)), (paper_of, ("stays", bounded, score, 10 ** 25)),
                (best_crowd, bounded, score), (best_prices, bounded, score),
                (two_crowds, bounded, score, 1), (width_prices, bounded, score, 1))
            for way in plain_ways(stair)[:2]:
                many = plain_along(ways, way)
                yield from ((parting, stair, way), (along_range, marks, way), (crowd_on, marks, way, many),
                            (short_paper, none, way, 3), (moments, stair, [way, way], 1, (0, None)))

    def spoil(self, value):
        """Change all lists and dicts within a value."""
        if isinstance(value, (list, tuple)):
            for part in value:
                self.spoil(part)
        if isinstance(value, dict):
            for part in value.values():
                self.spoil(part)
            value["x"] = 1
        if isinstance(value, list):
            value.append(1)

    def test_repeated_calls_and_what_is_changed_in_their_results(self):
        for action, *values in self.rows():
            before = repr(values)
            first = repr(action(*values))
            self.spoil(action(*values))
            self.assertEqual((repr(action(*values)), repr(values)), (first, before), action)

    def test_texts_read_back_answer_alike(self):
        for marks, ways in hidden_rows()[::3]:
            read = read_marks(text_of(marks))
            crowd = read_crowd(text_of(Crowd(marks.stair, ways)))
            self.assertEqual((read, fitting(read), narrower(read)), (marks, fitting(marks), narrower(marks)))
            self.assertTrue(read(crowd))


if __name__ == "__main__":
    unittest.main()
