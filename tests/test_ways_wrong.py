"""Ways, things, numbers and scores that are refused: which error, with which value, and which comes first."""

import unittest

from tests.samples import EqualToAll, forty_jumps, odd_values
from wornsteps.errors import InvalidCount, InvalidScore, InvalidThing, InvalidWay, NoSuch
from wornsteps.stairs import Stair
from wornsteps.ways import highest, lowest, many_ways, passed, place_of, score_of, through, way_at

WAY = (0, 1, 3)


def stair():
    return Stair(2, [(0, 1), (0, 2), (1, 3), (2, 3)])


def wrong_ways():
    return odd_values() + [
        1, 0, (), (0,), (3,), (0, 3), (0, 1), (1, 3), (0, 1, 2, 3), (0, 1, 3, 4), (0, 3, 1), (0, 0, 1, 3), [0, 1, 3],
        (0, True, 3), (False, 1, 3), (False, True, 3), (0, "1", 3), (0, None, 3), (0, [1], 3), (0, (1,), 3),
        ("feet", 1, (0, 1), (1, 3)), ((0, 1), (1, 3)), {0: 1, 1: 3}, (-1, 1, 3), (0, EqualToAll(), 3)]


def wrong_things():
    return [value for value in odd_values() if not isinstance(value, str)] + [
        "", "foot", "FEET", "feet ", "1", 0, 3, -1, 10 ** 29, (1, 2), (0, 3), (1, 0), (0,), (), (0, 1, 3), [0, 1], [],
        ["feet"], ("feet",), (0, True), (False, 1), (True, 3), (False, True), ((0, 1),), (0, "1"), (0, [1]),
        (3, 4), (0, EqualToAll())]


def wrong_counts():
    return odd_values() + [-1, -10 ** 29, [1], (1,), [], (), {1: 1}, "0"]


def wrong_scores():
    kinds = [value for value in odd_values() if not isinstance(value, dict)]
    rows = kinds + [1, 0, [], (), [(1, 1)], ((1, 1),), ["feet"]]
    for thing in wrong_things():
        try:
            rows.append({2: 2, thing: 1})
        except TypeError:
            pass  # Such a value can be no key.
    for number in kinds + [1001, -1001, 10 ** 29, [], (), [1], (1,), {}, {1: 1}]:
        rows.append({"feet": 1, (0, 1): number})
        rows.append({2: number})
    return rows


class Refusals(unittest.TestCase):
    def refused(self, error, value, action, *values, **named):
        for passed_values, passed_names in ((values, {}), ((), named)):
            with self.assertRaises(error) as caught:
                action(*passed_values, **passed_names)
            self.assertIs(type(caught.exception), error)
            self.assertIs(caught.exception.value, value)


class WrongWays(Refusals):
    def test_values_of_every_other_kind(self):
        for way in wrong_ways():
            self.refused(InvalidWay, way, place_of, stair(), way, stair=stair(), way=way)
            self.refused(InvalidWay, way, passed, stair(), way, stair=stair(), way=way)
            self.refused(InvalidWay, way, score_of, stair(), way, {}, stair=stair(), way=way, score={})

    def test_a_way_of_another_stair(self):
        other = Stair(10, forty_jumps())
        self.refused(InvalidWay, WAY, place_of, other, WAY, stair=other, way=WAY)
        self.refused(InvalidWay, WAY, passed, Stair(2, []), WAY, stair=Stair(2, []), way=WAY)

    def test_the_way_comes_ahead_of_the_score(self):
        for way in wrong_ways():
            self.refused(InvalidWay, way, score_of, stair(), way, None, score=None, way=way, stair=stair())


class WrongThings(Refusals):
    def test_values_of_every_other_kind(self):
        for thing in wrong_things():
            self.refused(InvalidThing, thing, through, stair(), thing, thing=thing, stair=stair())

    def test_a_thing_of_another_stair(self):
        self.refused(InvalidThing, 5, through, Stair.of(4, 1), 5, thing=5, stair=Stair.of(4, 1))


class WrongNumbers(Refusals):
    def test_values_of_every_other_kind(self):
        for number in wrong_counts():
            for each in (stair(), Stair(2, [])):
                self.refused(InvalidCount, number, way_at, each, number, number=number, stair=each)

    def test_none_behind_the_last_one(self):
        for each in (stair(), Stair(10, forty_jumps()), Stair(3, []), Stair(3, [(0, 1), (2, 4)])):
            many = many_ways(each)
            for number in (many, many + 1, 2 * many + 5, 10 ** 29):
                self.refused(NoSuch, number, way_at, each, number, stair=each, number=number)


class WrongScores(Refusals):
    def test_values_of_every_other_kind(self):
        for score in wrong_scores():
            for each in (stair(), Stair(2, [(0, 1)])):
                self.refused(InvalidScore, score, highest, each, score, score=score, stair=each)
                self.refused(InvalidScore, score, lowest, each, score, score=score, stair=each)
            self.refused(InvalidScore, score, score_of, stair(), WAY, score, score=score, way=WAY, stair=stair())

    def test_true_is_no_step_and_no_number(self):
        for score in ({True: 1}, {1: True}, {1: False}, {(0, True): 1}, {(False, 1): 1}, {"feet": True}):
            self.refused(InvalidScore, score, highest, stair(), score, stair=stair(), score=score)

    def test_the_limits_themselves_are_right(self):
        for number in (-1000, 1000):
            self.assertEqual(score_of(stair(), WAY, {1: number}), number)

    def test_things_of_another_stair(self):
        score = {3: 1}
        self.refused(InvalidScore, score, score_of, stair(), WAY, score, stair=stair(), way=WAY, score=score)


class NothingChanges(Refusals):
    def test_a_refusal_changes_nothing(self):
        each, score = stair(), {1: 1001, 2: 5}
        for action, values in ((place_of, ((0, 3),)), (passed, ([0, 1, 3],)), (through, (7,)), (way_at, (2,)),
                               (way_at, (-1,)), (score_of, (WAY, score)), (highest, (score,)), (lowest, (score,))):
            with self.assertRaises((InvalidWay, InvalidThing, InvalidCount, InvalidScore, NoSuch)):
                action(each, *values)
        self.assertEqual(list(score.items()), [(1, 1001), (2, 5)])
        self.assertEqual(each, stair())
        self.assertEqual((passed(each, WAY), way_at(each, 1)), (["feet", 1, (0, 1), (1, 3)], (0, 2, 3)))


if __name__ == "__main__":
    unittest.main()
