"""Shares: which fit or what denies them, and the greatest and least scores, each by the test's own sums."""

import random
import unittest
from fractions import Fraction

from tests.samples import lets, some_stairs
from tests.test_studies import chance_habits, plain_pairs, three
from wornsteps.errors import Endless, NothingFits
from wornsteps.habits import JustOnce, Study, Without
from wornsteps.shares import (are_multipliers, best_multipliers, best_shares, denial, do_shares_fit, fitting_shares,
                              is_denial, is_whole, share_greatest, share_least, share_wear, surely_there)
from wornsteps.stairs import Stair

BIG = 10 ** 29


def told_as(number):
    """A Fraction as the package tells it."""
    return (number.numerator, number.denominator)


def plain_share_wears(study, shares):
    """The dict from all things to their wear, as Fractions."""
    worn = {thing: Fraction(0) for thing in study.things()}
    for pair, share in shares.items():
        for thing in study.passed(pair):
            worn[thing] += Fraction(*share)
    return worn


def plain_prices(study, table):
    """The sums of what a dict has for the things that each pair passes."""
    return [sum((table.get(thing, 0) for thing in study.passed(pair)), Fraction(0)) for pair in study.pairs()]


def plain_share_worth(marks, multipliers):
    """The worth of multipliers, a Fraction; None if there is none."""
    total = Fraction(0)
    for thing, (top, bottom) in multipliers.items():
        low, high = marks.get(thing, (0, None))
        if top > 0 and high is None:
            return None
        total += Fraction(top, bottom) * (high if top > 0 else low)
    return total


def chance_shares(chance, study, unlike, most):
    """Shares of chance, of up to so many pairs."""
    pairs = chance.sample(study.pairs(), min(unlike, len(study)))
    return {pair: told_as(Fraction(chance.randint(1, most), chance.randint(1, 4))) for pair in pairs}


def chance_share_marks(chance, study, most):
    """Up to eight marks about the wears by shares of chance; some are not let by any."""
    worn = plain_share_wears(study, chance_shares(chance, study, 5, most))
    marks = {}
    for thing in chance.sample(study.things(), chance.randint(0, min(8, len(study.things())))):
        wear = int(worn[thing])
        low = chance.choice([wear, wear, max(0, wear - 1), wear // 2, 0, wear + chance.choice([0, 0, 0, 2])])
        marks[thing] = (low, chance.choice([None, low, low + 1, wear + low + 1]))
    return marks


def some_problems():
    """Rows of a study and marks of it."""
    chance = random.Random(12)
    rows = []
    for stair in some_stairs() + some_stairs()[:20] + [three(), Stair.of(4, 1, 2, 3)] * 6:
        habits = chance_habits(chance)
        if len(plain_pairs(stair, habits)) <= 60:
            study = Study(stair, habits)
            for most in (2, 6, BIG):
                rows.append((study, chance_share_marks(chance, study, most)))
    return rows


class Shares(unittest.TestCase):
    def fits(self, study, marks, shares):
        """Whether shares are right ones that fit, by the test's own sums."""
        self.assertEqual(list(shares), sorted(shares))
        for pair, (top, bottom) in shares.items():
            self.assertIn(pair, study.pairs())
            self.assertEqual((top, bottom), told_as(Fraction(top, bottom)))
            self.assertGreater(top, 0)
        return lets(marks, plain_share_wears(study, shares))

    def right_multipliers(self, study, found):
        things = study.things()
        self.assertEqual(list(found), [thing for thing in things if thing in found])
        for top, bottom in found.values():
            self.assertEqual((top, bottom), told_as(Fraction(top, bottom)))
            self.assertNotEqual(top, 0)


class Fitting(Shares):
    def test_either_shares_fit_or_there_is_a_denial(self):
        seen = set()
        for study, marks in some_problems():
            before = dict(marks)
            shares, denies = fitting_shares(study, marks), denial(study, marks)
            seen.add(shares is None)
            self.assertEqual((shares is None, denies is None), (denies is not None, shares is not None))
            if shares is not None:
                self.assertTrue(self.fits(study, marks, shares))
                self.assertIs(do_shares_fit(study, marks, shares), True)
                self.assertEqual(fitting_shares(study, dict(reversed(list(marks.items())))), shares)
            else:
                self.right_multipliers(study, denies)
                fractions = {thing: Fraction(*number) for thing, number in denies.items()}
                self.assertLess(plain_share_worth(marks, denies), 0)
                self.assertGreaterEqual(min(plain_prices(study, fractions), default=0), 0)
                self.assertIs(is_denial(study, marks, denies), True)
                self.assertEqual(denial(study, dict(reversed(list(marks.items())))), denies)
            self.assertEqual(marks, before)
        self.assertEqual(seen, {True, False})

    def test_halves(self):
        study = Study(three(), {"once": JustOnce(2)})
        each = {1: (1, 1), 2: (1, 1), 3: (1, 1)}
        halves = {pair: (1, 2) for pair in study.pairs()}
        self.assertEqual(fitting_shares(study, each), halves)
        self.assertEqual((is_whole(study, halves), is_whole(study, {}), is_whole(study, {study.pairs()[0]: (3, 1)})),
                         (False, True, True))
        self.assertIs(is_whole(shares={study.pairs()[0]: (3, 1), study.pairs()[1]: (3, 2)}, study=study), False)

    def test_none_stands_for_no_marks(self):
        study = Study(three(), {"once": JustOnce(2)})
        for marks in (None, {}):
            self.assertEqual((fitting_shares(study, marks), denial(study, marks)), ({}, None))
            self.assertIs(do_shares_fit(study, marks, {}), True)
            self.assertIs(is_denial(study, marks, {"feet": (-1, 1)}), False)
            self.assertEqual(surely_there(study, marks), [])
            self.assertEqual(share_greatest(study, marks, {"feet": -5}), (0, 1))

    def test_without_a_pair(self):
        study = Study(Stair(2, [(0, 1)]), {"a": Without(), "b": JustOnce(1)})
        self.assertEqual(fitting_shares(study, {1: (0, 0)}), {})
        self.assertEqual((fitting_shares(study, {1: (1, 2)}), fitting_shares(study, {"b": (1, None)})), (None, None))
        self.assertIs(is_denial(study, {1: (1, 2)}, denial(study, {1: (1, 2)})), True)
        self.assertEqual(share_wear(study, {})["a"], (0, 1))
        self.assertEqual(share_greatest(study, {"feet": (0, 3)}, {"feet": 1}), (0, 1))

    def test_wears(self):
        chance = random.Random(5)
        for study, _ in some_problems():
            for most in (3, BIG):
                shares = chance_shares(chance, study, 60, most)
                worn = share_wear(study, shares)
                self.assertEqual(worn, {thing: told_as(number) for thing, number in
                                        plain_share_wears(study, shares).items()})
                self.assertEqual(list(worn), study.things())
        self.assertEqual(share_wear(shares={}, study=Study(three(), {"a": Without()})),
                         {thing: (0, 1) for thing in three().things() + ["a"]})

    def test_shares_near_fitting_ones(self):
        chance = random.Random(9)
        seen = []
        for study, marks in some_problems():
            shares = fitting_shares(study, marks)
            for _ in range(3 if shares is not None and len(study) else 0):
                near = dict(shares)
                pair = chance.choice(study.pairs())
                more = Fraction(*near.get(pair, (0, 1))) + Fraction(chance.choice([-1, 1]), chance.randint(1, 3))
                near.pop(pair, None)
                if more > 0:
                    near[pair] = told_as(more)
                seen.append(lets(marks, plain_share_wears(study, near)))
                self.assertIs(do_shares_fit(study, marks, near), seen[-1])
        self.assertEqual(set(seen), {True, False})

    def test_denials_near_right_ones(self):
        chance = random.Random(19)
        seen = []
        for study, marks in some_problems():
            found = denial(study, marks)
            for _ in range(0 if found is None else 6):
                near = dict(found)
                thing = chance.choice(study.things())
                number = Fraction(*near.pop(thing, (0, 1))) + Fraction(chance.choice([-1, 0, 1]), chance.randint(1, 3))
                if number:
                    near[thing] = told_as(number)
                fractions = {key: Fraction(*value) for key, value in near.items()}
                total = plain_share_worth(marks, near)
                right = total is not None and total < 0 and min(plain_prices(study, fractions), default=0) >= 0
                seen.append(right)
                self.assertIs(is_denial(study, marks, near), right)
        self.assertEqual(set(seen), {True, False})


class Scores(Shares):
    def test_greatest_by_shares_and_by_multipliers(self):
        chance = random.Random(14)
        seen = set()
        for study, marks in some_problems():
            things = chance.sample(study.things(), chance.randint(0, len(study.things())))
            score = {thing: chance.choice([-1000, -2, -1, 0, 1, 3, 1000]) for thing in things}
            scores = plain_prices(study, score)
            endless = any(total > 0 and all(marks.get(thing, (0, None))[1] is None for thing in study.passed(pair))
                          for pair, total in zip(study.pairs(), scores))
            expected = NothingFits if fitting_shares(study, marks) is None else Endless if endless else None
            seen.add(expected)
            if expected:
                for action in (share_greatest, best_shares, best_multipliers):
                    with self.assertRaises(expected):
                        action(study, marks, score)
                with self.assertRaises(expected):
                    share_least(study, marks, {thing: -score[thing] for thing in score})
            else:
                self.check(study, marks, score, scores)
        self.assertEqual(seen, {NothingFits, Endless, None})

    def test_marks_with_lows_and_highs_alone(self):
        chance = random.Random(41)
        studies = [Study(three(), {"once": JustOnce(2), "plain": Without(2)}), Study(Stair.of(4, 1, 2), {"a": Without()})]
        checked = 0
        for _ in range(400):
            study = chance.choice(studies)
            marks = {}
            for thing in chance.sample(study.things(), chance.randint(1, 5)):
                low = chance.randint(0, 4)
                marks[thing] = (low, low + chance.randint(0, 5))
            score = {thing: chance.randint(-3, 3) for thing in chance.sample(study.things(), 4)}
            try:
                share_greatest(study, marks, score)
            except (Endless, NothingFits):
                continue
            checked += 1
            self.check(study, marks, score, plain_prices(study, score))
        self.assertGreater(checked, 100)

    def check(self, study, marks, score, scores):
        top, bottom = share_greatest(study, marks, score)
        self.assertEqual((top, bottom), told_as(Fraction(top, bottom)))
        shares, multipliers = best_shares(study, marks, score), best_multipliers(study, marks, score)
        self.assertTrue(self.fits(study, marks, shares))
        worn = plain_share_wears(study, shares)
        self.assertEqual(sum(number * worn[thing] for thing, number in score.items()), Fraction(top, bottom))
        self.right_multipliers(study, multipliers)
        self.assertEqual(plain_share_worth(marks, multipliers), Fraction(top, bottom))
        prices = plain_prices(study, {thing: Fraction(*number) for thing, number in multipliers.items()})
        self.assertTrue(all(price >= number for price, number in zip(prices, scores)))
        turned = {thing: -number for thing, number in score.items()}
        self.assertEqual(share_least(study, marks, turned), (-top, bottom))
        self.assertIs(are_multipliers(study, marks, score, (top, bottom), multipliers), True)
        less, more = Fraction(top, bottom) - Fraction(1, 9), Fraction(top, bottom) + Fraction(1, 9)
        self.assertIs(are_multipliers(study, marks, score, told_as(less), multipliers), False)
        self.assertIs(are_multipliers(study, marks, score, told_as(more), multipliers), True)

    def test_multipliers_near_right_ones(self):
        chance = random.Random(23)
        seen = []
        for study, marks in some_problems():
            score = {thing: chance.randint(-2, 2) for thing in study.things()}
            try:
                most, found = share_greatest(study, marks, score), best_multipliers(study, marks, score)
            except (Endless, NothingFits):
                continue
            for _ in range(4):
                near = dict(found)
                thing = chance.choice(study.things())
                number = Fraction(*near.pop(thing, (0, 1))) + Fraction(chance.choice([-1, 0, 1]), chance.randint(1, 3))
                if number:
                    near[thing] = told_as(number)
                total = plain_share_worth(marks, near)
                prices = plain_prices(study, {key: Fraction(*value) for key, value in near.items()})
                right = total is not None and total <= Fraction(*most)
                right = right and all(map(lambda one, other: one >= other, prices, plain_prices(study, score)))
                seen.append(right)
                self.assertIs(are_multipliers(study, marks, score, most, near), right)
        self.assertEqual(set(seen), {True, False})

    def test_examples(self):
        study = Study(three(), {"once": JustOnce(2)})
        each = {1: (1, 1), 2: (1, 1), 3: (1, 1)}
        self.assertEqual(share_greatest(study, each, {"once": 2}), (3, 1))
        self.assertEqual(share_least(score={"once": 2}, marks=each, study=study), (3, 1))
        self.assertEqual(share_greatest(study, {1: (1, 1), 3: (1, 1), 2: (0, 1)}, {"feet": 1}), (3, 2))
        self.assertEqual(share_greatest(study, {"once": (0, BIG)}, {"feet": 1000}), (1000 * BIG, 1))

    def test_nothing_fits_comes_ahead_of_endless(self):
        study = Study(three(), {"once": JustOnce(2), "plain": Without(2)})
        with self.assertRaises(NothingFits):
            marks = {"once": (2, 3), "feet": (0, None), 2: (0, 0), (0, 1): (0, 0)}
            share_greatest(study, marks, {"plain": 1, "feet": 1})
        with self.assertRaises(Endless):
            share_greatest(study, {"once": (2, 3)}, {"plain": 1})
        self.assertEqual(share_greatest(study, {"plain": (0, 3)}, {"plain": 1}), (3, 1))

    def test_surely_there(self):
        both = Study(three(), {"once": JustOnce(2), "plain": Without(2)})
        self.assertEqual(surely_there(both, {"feet": (1, 1), 2: (0, 0)}), ["once"])
        for study, marks in some_problems():
            if fitting_shares(study, marks) is None:
                with self.assertRaises(NothingFits):
                    surely_there(study, marks)
            else:
                expected = [name for name in sorted(study.habits()) if share_least(study, marks, {name: 1})[0] > 0]
                self.assertEqual(surely_there(marks=marks, study=study), expected)


if __name__ == "__main__":
    unittest.main()
