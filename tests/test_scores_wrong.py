"""What the functions of scores refuse: which error, with which value, and which comes first."""

import unittest

from tests.samples import odd_values
from tests.test_crowds_wrong import Refusals
from tests.test_ways_wrong import stair, wrong_counts, wrong_scores, wrong_things
from wornsteps.errors import InvalidCount, InvalidScore, InvalidThing, NothingFits
from wornsteps.marks import Marks
from wornsteps.scores import (are_prices, best_crowd, best_prices, crowd_with, free_way, greatest, idle, known, least,
                              only_crowd, range_of, sure)

BIG = 10 ** 29


def both():
    """Marks that some crowd fits, and marks that none fits."""
    return [Marks(stair(), {1: (1, 4)}), Marks(stair(), {1: (2, 2), "feet": (1, 1)})]


class Wrong(Refusals):
    def test_scores(self):
        for marks in both():
            for score in wrong_scores():
                for action in (greatest, least, best_crowd, best_prices, free_way):
                    self.refused(InvalidScore, score, action, marks, score)
                self.refused(InvalidScore, score, are_prices, marks, score, None, None)

    def test_things_and_numbers(self):
        for marks in both():
            for thing in wrong_things():
                self.refused(InvalidThing, thing, range_of, marks, thing)
                self.refused(InvalidThing, thing, crowd_with, marks, thing, None)
            for number in wrong_counts():
                self.refused(InvalidCount, number, crowd_with, marks, 1, number)

    def test_whole_numbers(self):
        for marks in both():
            for most in odd_values() + [[1], (1,), (1, 1), [], "0"]:
                self.refused(InvalidCount, most, are_prices, marks, {1: 5}, most, None)
            for most in (-BIG, -1, 0, 5, BIG):
                self.assertIs(are_prices(marks, {1: -1}, most, {}), most >= 0)

    def test_any_value_as_prices(self):
        rows = [value for value in odd_values() if not isinstance(value, dict)] + [0, [], (), [(1, 1)]]
        for thing in wrong_things():
            try:
                rows.append({2: -1, thing: -1})
            except TypeError:
                pass  # Such a value can be no key.
        rows += [{1: 1, 2: price} for price in odd_values() + [0, [1], (1, 1)]] + [{1: 0}]
        for marks in both():
            for value in rows:
                self.assertIs(are_prices(marks, {"feet": -1000}, BIG, value), False)
            self.assertIs(are_prices(marks, {"feet": -1000}, BIG, {}), True)

    def test_nothing_fits_comes_behind(self):
        none = both()[1]
        for action in (greatest, least, best_crowd, best_prices):
            with self.assertRaises(NothingFits):
                action(none, {1: 1})
        for action in (sure, idle, known, only_crowd):
            with self.assertRaises(NothingFits):
                action(none)
        for number in (0, 1, 2, BIG):
            with self.assertRaises(NothingFits):
                crowd_with(none, "feet", number)
        with self.assertRaises(NothingFits):
            range_of(none, (0, 2))
        self.assertEqual((free_way(none, {2: 1}), are_prices(none, {2: 1}, 5, {2: 1})), (None, False))

    def test_what_is_passed_stays(self):
        marks, score, prices = both()[0], {2: -1, "feet": -3}, {1: -1}
        before = repr((marks, score, prices))
        for action in (greatest, best_crowd, best_prices, free_way):
            action(marks, score)
        are_prices(marks, score, 5, prices)
        least(marks, {2: 1})
        self.assertEqual(repr((marks, score, prices)), before)


if __name__ == "__main__":
    unittest.main()
