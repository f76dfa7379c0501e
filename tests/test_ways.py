"""Ways up a stair: number, sequence, things passed and scores, beside slow but plain answers."""

import inspect
import itertools
import unittest
from fractions import Fraction

from tests.samples import all_jumps, forty_jumps, plain_passed, plain_ways, some_scores, some_stairs
from wornsteps import ways
from wornsteps.errors import InvalidScore
from wornsteps.stairs import Stair
from wornsteps.ways import (all_ways, dead, highest, lowest, many_ways, passed, place_of, score_of, through,
                            way_at)


class Sequence(unittest.TestCase):
    def test_number_and_sequence(self):
        for stair in some_stairs():
            expected = plain_ways(stair)
            self.assertEqual(many_ways(stair), len(expected))
            self.assertEqual(list(all_ways(stair)), expected)

    def test_place_and_back(self):
        for stair in some_stairs():
            for number, way in enumerate(plain_ways(stair)):
                self.assertEqual(way_at(stair, number), way)
                self.assertEqual(place_of(stair, way), number)
                self.assertIs(type(way_at(stair, number)), tuple)

    def test_ways_of_known_numbers(self):
        self.assertEqual([many_ways(Stair.of(steps, 1, 2)) for steps in range(1, 11)],
                         [2, 3, 5, 8, 13, 21, 34, 55, 89, 144])
        self.assertEqual(many_ways(Stair.of(10, 1, 2, 3, 4)), 773)
        self.assertEqual(many_ways(Stair(10, forty_jumps())), len(plain_ways(Stair(10, forty_jumps()))))

    def test_dead_ends(self):
        stair = Stair(4, [(0, 1), (0, 2), (1, 3), (2, 5), (3, 4)])
        self.assertEqual((many_ways(stair), list(all_ways(stair))), (1, [(0, 2, 5)]))
        self.assertEqual((way_at(stair, 0), place_of(stair, (0, 2, 5))), ((0, 2, 5), 0))

    def test_without_a_way(self):
        for stair in (Stair(3, []), Stair(3, [(0, 1), (2, 4)]), Stair(1, [(1, 2)])):
            self.assertEqual((many_ways(stair), list(all_ways(stair))), (0, []))

    def test_by_name(self):
        stair = Stair.of(2, 1, 2)
        self.assertEqual((many_ways(stair=stair), list(all_ways(stair=stair))[1]), (3, (0, 1, 3)))
        self.assertEqual((way_at(number=2, stair=stair), place_of(way=(0, 2, 3), stair=stair)), ((0, 2, 3), 2))


class Generators(unittest.TestCase):
    def test_it_is_a_generator(self):
        self.assertTrue(inspect.isgenerator(all_ways(Stair.of(2, 1))))

    def test_begun_anew(self):
        stair = Stair.of(4, 1, 2)
        begun = all_ways(stair)
        next(begun)
        next(begun)
        self.assertEqual(list(all_ways(stair)), plain_ways(stair))
        self.assertEqual(list(begun), plain_ways(stair)[2:])
        self.assertEqual(list(begun), [])

    def test_left(self):
        stair = Stair.of(4, 1, 2)
        left = all_ways(stair)
        self.assertEqual(next(left), (0, 1, 2, 3, 4, 5))
        left.close()
        self.assertEqual(list(all_ways(stair)), plain_ways(stair))

    def test_side_by_side(self):
        one, other = Stair.of(4, 1, 2), Stair(3, [(0, 1), (0, 2), (1, 4), (2, 4)])
        rows = list(itertools.zip_longest(all_ways(one), all_ways(other), all_ways(one)))
        self.assertEqual([row[0] for row in rows], plain_ways(one))
        self.assertEqual([row[1] for row in rows if row[1]], plain_ways(other))
        self.assertEqual([row[2] for row in rows], plain_ways(one))


class Passing(unittest.TestCase):
    def test_things_passed_in_order(self):
        for stair in some_stairs():
            for way in plain_ways(stair):
                self.assertEqual(passed(stair, way), plain_passed(stair, way))
                self.assertIs(type(passed(stair, way)), list)

    def test_a_way_without_steps(self):
        self.assertEqual(passed(stair=Stair(5, [(0, 6)]), way=(0, 6)), ["feet", (0, 6)])

    def test_through_each_thing(self):
        for stair in some_stairs():
            lists = [plain_passed(stair, way) for way in plain_ways(stair)]
            for thing in stair.things():
                self.assertEqual(through(stair, thing), len([row for row in lists if thing in row]))
        self.assertEqual(through(thing=2, stair=Stair.of(2, 1, 2)), 2)

    def test_dead_things(self):
        for stair in some_stairs():
            lists = [plain_passed(stair, way) for way in plain_ways(stair)]
            expected = [thing for thing in stair.things() if not any(thing in row for row in lists)]
            self.assertEqual(dead(stair), expected)
            self.assertIs(type(dead(stair)), list)

    def test_all_things_are_dead_without_a_way(self):
        stair = Stair(2, [(0, 1), (2, 3)])
        self.assertEqual(dead(stair=stair), ["feet", 1, 2, (0, 1), (2, 3)])
        self.assertEqual([through(stair, thing) for thing in stair.things()], [0, 0, 0, 0, 0])

    def test_no_thing_is_dead(self):
        self.assertEqual(dead(Stair.of(3, 1, 2)), [])


class Scores(unittest.TestCase):
    def test_score_of_each_way(self):
        for stair in some_stairs():
            for score in some_scores(stair):
                for way in plain_ways(stair)[:40]:
                    expected = sum(score.get(thing, 0) for thing in plain_passed(stair, way))
                    self.assertEqual(score_of(stair, way, score), expected)

    def test_all_ways_of_a_large_stair_by_a_score_of_all_its_things(self):
        short = [jump for jump in all_jumps(10) if jump[1] - jump[0] <= 4]
        for stair, many in ((Stair(10, short), 773), (Stair(10, short + [(0, 10), (0, 11)]), 775)):
            score = {thing: (-1) ** k * (37 * k % 1001) for k, thing in enumerate(stair.things())}
            self.assertEqual((len(score), min(score.values()) < 0), (11 + len(stair), True))
            rows = plain_ways(stair)
            self.assertEqual(len(rows), many)
            for way in rows:
                expected = score["feet"]
                for k, place in enumerate(way[1:]):
                    expected += score[(way[k], place)] + (score[place] if place != 11 else 0)
                self.assertEqual(score_of(stair, way, score), expected)

    def test_a_score_of_all_things_is_checked_to_its_last_one(self):
        stair = Stair(10, forty_jumps())
        for thing in stair.things():
            for number in (True, 1001, -1001, None, "1", (1,)):
                score = {other: 5 for other in reversed(stair.things())}
                score[thing] = number
                with self.assertRaises(InvalidScore) as caught:
                    score_of(stair, (0, 11), score)
                self.assertIs(caught.exception.value, score)
        for wrong in (True, (0, True), (False, 1), (True, 2), "foot", 11, (1, 11), Fraction(3), (0, Fraction(4)),
                      3 + 0j):
            score = {thing: 5 for thing in stair.things() if thing != wrong}
            score[wrong] = 5
            with self.assertRaises(InvalidScore):
                score_of(stair, (0, 11), score)

    def test_highest_and_lowest_with_the_first_way_of_ties(self):
        for stair in some_stairs():
            rows = plain_ways(stair)
            lists = [plain_passed(stair, way) for way in rows]
            for score in some_scores(stair):
                totals = [sum(score.get(thing, 0) for thing in row) for row in lists]
                if rows:
                    top, bottom = max(totals), min(totals)
                    self.assertEqual(highest(stair, score), (top, rows[totals.index(top)]))
                    self.assertEqual(lowest(stair, score), (bottom, rows[totals.index(bottom)]))
                else:
                    self.assertIsNone(highest(stair, score))
                    self.assertIsNone(lowest(stair, score))

    def test_kinds(self):
        stair = Stair.of(2, 1, 2)
        for found in (highest(stair, {}), lowest(score={}, stair=stair)):
            self.assertEqual(found, (0, (0, 1, 2, 3)))
            self.assertEqual([type(part) for part in found], [int, tuple])
            self.assertIs(type(found), tuple)
        self.assertIs(type(score_of(score={}, way=(0, 1, 3), stair=stair)), int)

    def test_all_ways_tie(self):
        stair = Stair.of(4, 2, 1)
        for score in ({}, {"feet": 5}, {"feet": -1000}):
            self.assertEqual(highest(stair, score)[1], (0, 1, 2, 3, 4, 5))
            self.assertEqual(lowest(stair, score)[1], (0, 1, 2, 3, 4, 5))

    def test_scores_of_dead_things_count_nothing(self):
        stair = Stair(3, [(0, 1), (0, 2), (1, 4), (2, 3)])
        score = {2: 1000, 3: -1000, (0, 2): 1000, (2, 3): 1000, (0, 1): 3, 1: -4}
        self.assertEqual(highest(stair, score), (-1, (0, 1, 4)))
        self.assertEqual(lowest(stair, score), (-1, (0, 1, 4)))
        self.assertEqual(score_of(stair, (0, 1, 4), score), -1)

    def test_at_the_limits(self):
        stair = Stair(10, forty_jumps())
        way = tuple(range(12))
        for number in (1000, -1000):
            score = {thing: number for thing in stair.things()}
            self.assertEqual(score_of(stair, way, score), 22 * number)
        self.assertEqual(highest(stair, {thing: 1000 for thing in stair.things()}), (22000, way))
        self.assertEqual(lowest(stair, {thing: -1000 for thing in stair.things()}), (-22000, way))
        self.assertEqual(lowest(stair, {thing: 1000 for thing in stair.things()}), (2000, (0, 11)))

    def test_without_a_way(self):
        stair = Stair(2, [(0, 1), (2, 3)])
        self.assertIsNone(highest(stair, {"feet": 1, 1: 1000}))
        self.assertIsNone(lowest(stair, {}))

    def test_the_order_of_the_keys_has_no_effect(self):
        stair = Stair.of(5, 1, 2, 3)
        score = {thing: (7 * k) % 5 - 2 for k, thing in enumerate(stair.things())}
        turned = {thing: score[thing] for thing in reversed(list(score))}
        self.assertEqual(highest(stair, turned), highest(stair, score))
        self.assertEqual(lowest(stair, turned), lowest(stair, score))


class Copies(unittest.TestCase):
    def test_what_was_passed_is_not_changed(self):
        stair, score = Stair.of(3, 1, 2), {2: 5, "feet": -1}
        highest(stair, score)
        lowest(stair, score)
        score_of(stair, (0, 2, 4), score)
        self.assertEqual(list(score.items()), [(2, 5), ("feet", -1)])
        self.assertEqual(stair, Stair.of(3, 1, 2))

    def test_what_was_returned_can_be_changed(self):
        stair = Stair(3, [(0, 1), (0, 2), (1, 4)])
        for action in (lambda: passed(stair, (0, 1, 4)), lambda: dead(stair)):
            before = list(action())
            action().clear()
            action().append("other")
            self.assertEqual(action(), before)
        self.assertEqual(stair, Stair(3, [(0, 1), (0, 2), (1, 4)]))


class Interface(unittest.TestCase):
    def test_each_function_is_defined_in_this_file_with_its_parameters(self):
        listed = {"many_ways": ["stair"], "all_ways": ["stair"], "way_at": ["stair", "number"],
                  "place_of": ["stair", "way"], "passed": ["stair", "way"], "through": ["stair", "thing"],
                  "dead": ["stair"], "score_of": ["stair", "way", "score"], "highest": ["stair", "score"],
                  "lowest": ["stair", "score"]}
        for name, parameters in listed.items():
            function = getattr(ways, name)
            self.assertEqual(function.__module__, "wornsteps.ways")
            self.assertEqual(list(inspect.signature(function).parameters), parameters)


if __name__ == "__main__":
    unittest.main()
