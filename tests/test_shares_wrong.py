"""What the functions of shares refuse: which error, with which value, and which comes first."""

import unittest

from tests.samples import EqualToAll, odd_values
from tests.test_crowds_wrong import Refusals
from tests.test_marks import wrong_marks
from tests.test_studies import three
from wornsteps.errors import InvalidCount, InvalidMarks, InvalidScore, InvalidShares, TooMany
from wornsteps.habits import JustOnce, Study, Without
from wornsteps.shares import (are_multipliers, best_multipliers, best_shares, denial, do_shares_fit, fitting_shares,
                              is_denial, is_whole, share_greatest, share_least, share_wear, surely_there)

PAIR = ("once", (0, 2, 3, 4))
FREE = {thing: (0, None) for thing in ("feet", 1, 2, 3, (0, 1), (0, 2), (1, 2), "once", (1, 3))}


def study():
    return Study(three(), {"once": JustOnce(2)})


def wrong_fractions():
    """Values that are no FRACTION."""
    return odd_values() + [1, 0, -1, (), (1,), (1, 2, 3), [1, 2], (2, 4), (0, 2), (1, 0), (1, -1), (-1, -2), (True, 1),
                           (1, True), (False, 1), ("1", 2), (1, "2"), (None, 1), (1, None), ([1], 1), {1: 1}, (3, 3),
                           (EqualToAll(), 1), (10 ** 29, 10 ** 28)]


def wrong_keys():
    """Values that are no thing of the study, and no pair of it."""
    return [value for value in odd_values() if value != "feet" or not isinstance(value, str)] + [
        0, 4, -1, "plain", "onc", "Once", "once ", (0, 3), (0, True), (False, 1), (1, 4), (), (0,), ("once",),
        ("once", 1), (EqualToAll(), 1), ("once", (0, 1, 4))]


def with_wrong_keys(good_key, number):
    """Dicts in which one key is wrong."""
    rows = []
    for key in wrong_keys():
        try:
            rows.append({good_key: number, key: number})
        except TypeError:
            pass  # Such a value can be no key.
    return rows


def wrong_tables():
    return [value for value in odd_values() if not isinstance(value, dict)] + [0, [], (), [(1, (1, 1))], study()]


def wrong_shares():
    rows = wrong_tables() + with_wrong_keys(PAIR, (1, 1))
    rows += [{PAIR: value} for value in wrong_fractions() + [(0, 1), (-1, 2), (-1, 1)]]
    rows += [{1: (1, 1)}, {"once": (1, 1)}, {("once", (0, 1, 2, 3, 4)): (1, 1)}, {("plain", (0, 2, 3, 4)): (1, 1)},
             {PAIR: (1, 1), ("once", (0, True, 2, 4)): (1, 1)}]
    return rows


def wrong_multipliers():
    rows = wrong_tables() + with_wrong_keys(2, (-1, 1)) + [{PAIR: (1, 1)}]
    return rows + [{2: value} for value in wrong_fractions() + [(0, 1)]] + [{2: (-1, 1), 3: (0, 1)}, {"once": 1}]


def marks_and_scores():
    """Rows of a function of a study, marks and a score."""
    return [share_greatest, share_least, best_shares, best_multipliers,
            lambda of, marks, score: are_multipliers(of, marks, score, (1, 1), {})]


def with_marks():
    """Functions of a study and marks alone."""
    return [fitting_shares, denial, surely_there, lambda of, marks: do_shares_fit(of, marks, None),
            lambda of, marks: is_denial(of, marks, None)]


class Wrong(Refusals):
    def test_shares(self):
        for shares in wrong_shares():
            self.refused(InvalidShares, shares, share_wear, study(), shares)
            self.refused(InvalidShares, shares, is_whole, study(), shares)
            self.assertIs(do_shares_fit(study(), {}, shares), False)

    def test_multipliers(self):
        marks = {2: (1, 1), 3: (1, 1), "once": (3, 3)}
        self.assertIs(is_denial(study(), {2: (1, 1), "feet": (0, 0)}, {2: (-1, 1), "feet": (1, 1)}), True)
        for value in wrong_multipliers():
            self.assertIs(is_denial(study(), {2: (1, 1)}, value), False)
            self.assertIs(are_multipliers(study(), marks, {"feet": -1000}, (10 ** 29, 1), value), False)
        self.assertIs(are_multipliers(study(), marks, {"feet": -1000}, (10 ** 29, 1), {}), True)

    def test_marks(self):
        rows = [value for value in wrong_tables() if value is not None] + with_wrong_keys(2, (0, 1))
        rows += [{2: (0, 1), 3: mark} for mark in wrong_marks()]
        for marks in rows:
            for action in with_marks():
                self.refused(InvalidMarks, marks, action, study(), marks)
            for action in marks_and_scores():
                self.refused(InvalidMarks, marks, action, study(), marks, None)

    def test_scores(self):
        rows = wrong_tables() + with_wrong_keys(2, 1)
        rows += [{2: 1, 3: number} for number in odd_values() + [1001, -1001, (1, 1), [1], 10 ** 29]]
        for score in rows:
            for action in marks_and_scores():
                self.refused(InvalidScore, score, action, study(), FREE, score)
        for action in marks_and_scores()[:4]:
            action(study(), {"feet": (0, 1)}, {"once": 1000, "feet": -1000, (0, 2): 5})

    def test_numbers(self):
        for most in wrong_fractions():
            self.refused(InvalidCount, most, are_multipliers, study(), FREE, {}, most, None)

    def test_eight_marks_and_nine(self):
        eight = {thing: mark for thing, mark in FREE.items() if thing != (1, 3)}
        self.assertEqual((len(eight), len(FREE)), (8, 9))
        for action in with_marks():
            self.too_many(action, study(), FREE)
            action(study(), eight)
        for action in marks_and_scores():
            self.too_many(action, study(), FREE, {})
            action(study(), eight, {})

    def too_many(self, action, *values):
        with self.assertRaises(TooMany) as caught:
            action(*values)
        self.assertEqual((caught.exception.what, caught.exception.limit), ("marks", 8))

    def test_too_many_comes_last_and_ahead_of_what_does_not_fit(self):
        nine = {**FREE, "feet": (0, 0), 2: (1, 1)}
        for action in with_marks():
            self.too_many(action, study(), nine)
        for action in marks_and_scores():
            self.too_many(action, study(), nine, {"once": 1})
        self.refused(InvalidMarks, wrong := {**FREE, (2, 3): 1}, fitting_shares, study(), wrong)
        self.refused(InvalidMarks, wrong, are_multipliers, study(), wrong, None, None, None)

    def test_what_is_passed_stays(self):
        marks, score, shares = {2: (0, 2), "feet": (1, 5)}, {"once": 1, 3: 1}, {PAIR: (1, 2)}
        before = repr((marks, score, shares))
        for action in with_marks():
            action(study(), marks)
        for action in marks_and_scores():
            action(study(), marks, score)
        share_wear(study(), shares)
        is_whole(study(), shares)
        self.assertEqual(repr((marks, score, shares)), before)

    def test_a_study_of_several_habits(self):
        both = Study(three(), {"once": JustOnce(2), "plain": Without(2)})
        self.assertEqual(share_greatest(both, {"plain": (0, 1), "once": (0, 2)}, {"feet": 1}), (3, 1))
        self.assertEqual(share_wear(both, {PAIR: (1, 3), ("plain", (0, 1, 2, 3, 4)): (1, 6)})["feet"], (1, 2))


if __name__ == "__main__":
    unittest.main()
