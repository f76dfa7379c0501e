"""Claims, whether they are true, and their papers, by the test's own checks."""

import random
import unittest

from tests.samples import (EqualToAll, large_stair, lets, odd_values, plain_total, plain_ways, plain_wears, plain_worth,
                           small_stairs)
from tests.test_beside import drawn_stairs, plain_own
from tests.test_crowds_wrong import Refusals, wrong_runs
from tests.test_fits import is_plain_clash_of, large_marks
from tests.test_blame import bounds_of, eased_by, plain_touched
from tests.test_runs import is_right_paper, plain_along, runs_of
from tests.test_scores import chance_score, small_problems, total_of
from tests.test_ways_wrong import stair as four_jumps
from tests.test_ways_wrong import wrong_counts, wrong_scores
from wornsteps.claims import is_claim, is_paper, is_true, paper_of
from wornsteps.crowds import Crowd
from wornsteps.errors import InvalidClaim
from wornsteps.fits import clash, does_fit
from wornsteps.marks import Marks
from wornsteps.stairs import Stair

BIG = 10 ** 28


def fits(marks, value):
    return isinstance(value, Crowd) and value.stair == marks.stair and lets(
        marks.told(), plain_wears(marks.stair, value.ways()))


def shows(claim, value):
    """Whether a paper of the right kind shows a claim, by the table of the document."""
    word, *parts = claim
    marks = parts[0]
    if word in ("fits", "reaches", "along", "helps"):
        inner = eased_by(marks, parts[1]) if word == "helps" else marks
        if not fits(inner, value):
            return False
        if word == "reaches":
            return total_of(parts[1], plain_wears(marks.stair, value.ways())) >= parts[2]
        return word != "along" or plain_along(value.ways(), parts[1]) >= parts[2]
    if word in ("clash", "no help"):
        return is_plain_clash_of(marks, value) and (
            word == "clash" or not set(plain_touched(marks.stair, value)) & set(parts[1]))
    if word == "stays":
        crowd, prices = value
        worth = plain_worth(marks.told(), prices)
        return fits(marks, crowd) and worth is not None and worth <= parts[2] and all(
            plain_total(marks.stair, prices, way) >= plain_total(marks.stair, parts[1], way)
            for way in plain_ways(marks.stair))
    if word == "not along":
        return is_right_paper(marks, parts[1], parts[2], value) or value[0] == "clash" and is_plain_clash_of(
            marks, value[1])
    ways, others = plain_own(parts[0]), plain_own(parts[1])
    return ways == others == list(value) if word == "same" else (value in ways) != (value in others)


def opposites():
    """The words of claims of which just one is true of the same things."""
    return (("fits", "clash"), ("along", "not along"), ("helps", "no help"), ("same", "other"))


class Truth(unittest.TestCase):
    def check(self, claim, expected):
        """Whether a claim is true is told rightly, and its paper shows it."""
        before = repr(claim)
        self.assertIs(is_claim(claim), True)
        self.assertIs(is_true(claim), expected, claim)
        paper = paper_of(claim)
        self.assertIs(paper is not None, expected)
        if expected:
            self.assertTrue(shows(claim, paper), (claim, paper))
            self.assertIs(is_paper(claim, paper), True)
            self.assertIs(type(paper), {"stays": tuple, "not along": tuple, "clash": dict, "no help": dict,
                                        "same": list, "other": tuple}.get(claim[0], Crowd))
            self.assertEqual(paper_of(claim), paper)
        self.assertEqual(repr(claim), before)

    def test_small_marks_against_all_crowds(self):
        chance = random.Random(96)
        for marks, crowds in small_problems():
            self.check(("fits", marks), bool(crowds))
            self.check(("clash", marks), not crowds)
            score = chance_score(chance, marks.stair, [-2, -1, 1, 3])
            totals = [total_of(score, worn) for _, worn in crowds]
            for number in {-5, 0, 1, *[total + more for total in totals[:1] + totals[-1:] for more in (-1, 0, 1)]}:
                self.check(("reaches", marks, score, number), bool(totals) and max(totals) >= number)
                self.check(("stays", marks, score, number), bool(totals) and max(totals) <= number)
            runs = runs_of(marks.stair)
            for run in chance.sample(runs, min(4, len(runs))):
                met = max([plain_along(crowd.ways(), run) for crowd, _ in crowds], default=-1)
                for number in range(5):
                    self.check(("along", marks, run, number), met >= number)
                    self.check(("not along", marks, run, number), met < number)
            bounds = chance.sample(bounds_of(marks.stair), chance.randint(0, 4))
            for among in (bounds, tuple(bounds[:1])):
                expected = does_fit(eased_by(marks, among))
                self.check(("helps", marks, among), expected)
                self.check(("no help", marks, among), not expected)

    def test_large_marks(self):
        chance = random.Random(97)
        found = {True: 0, False: 0}
        for marks in large_marks():
            if len(plain_ways(marks.stair)) < 120:
                for _ in range(2):
                    score = chance_score(chance, marks.stair, [-1000, -1, 2, 1000])
                    number = chance.choice([-BIG, -1, 0, 1, BIG, 10 ** 40])
                    run = chance.choice(runs_of(marks.stair) or [None])
                    bounds = chance.sample(bounds_of(marks.stair), 3)
                    rows = [(("fits", marks), ("clash", marks)),
                            (("helps", marks, bounds), ("no help", marks, bounds))]
                    if run:
                        rows.append((("along", marks, run, abs(number)), ("not along", marks, run, abs(number))))
                    for one, other in rows:
                        self.check(one, is_true(one))
                        self.check(other, not is_true(one))
                    for claim in (("reaches", marks, score, number), ("stays", marks, score, number)):
                        found[is_true(claim)] += 1
                        self.check(claim, is_true(claim))
        self.assertGreater(min(found.values()), 30)

    def test_endless_scores(self):
        stair = Stair.of(2, 1, 2)
        marks = Marks(stair, {1: (2, 5), 2: (1, None)})
        for number in (-BIG, 0, 2, BIG):
            self.check(("reaches", marks, {"feet": 3, 1: -7}, number), True)
            self.check(("stays", marks, {"feet": 3, 1: -7}, number), False)
            self.check(("stays", marks, {"feet": -3, 1: -7}, number), number >= -17)
        none = Marks(stair, {1: (2, 5), (0, 1): (0, 1)})
        self.check(("reaches", none, {"feet": 3}, -BIG), False)
        self.check(("stays", none, {2: 3}, BIG), False)

    def test_stairs(self):
        for one, other in drawn_stairs(12):
            same = plain_own(one) == plain_own(other)
            for first, second in ((one, other), (other, one)):
                self.check(("same", first, second), same)
                self.check(("other", first, second), not same)
            self.check(("same", one, one), True)
        self.check(("same", Stair(1, []), Stair(1, [(0, 2)])), True)

    def test_just_one_of_two_opposites(self):
        for marks in large_marks():
            for one, other in opposites()[:1]:
                self.assertIsNot(is_true((one, marks)), is_true((other, marks)))

    def test_names(self):
        marks = Marks(Stair.of(2, 1, 2), {1: (3, 3)})
        claim = ("fits", marks)
        self.assertEqual((is_claim(value=claim), is_true(claim=claim)), (True, True))
        self.assertIs(is_paper(value=paper_of(claim=claim), claim=claim), True)


class Papers(unittest.TestCase):
    def stair(self):
        return Stair.of(2, 1, 2)

    def check(self, claim, right, wrong):
        for value in right:
            self.assertIs(is_paper(claim, value), True, (claim, value))
        for value in wrong + odd_values() + [0, 1, (1, 2), [], [1], EqualToAll(), (EqualToAll(), EqualToAll())]:
            if not (value == () or isinstance(value, list) and claim[0] == "same" and value in right):
                self.assertIs(is_paper(claim, value), False, (claim, value))

    def crowds(self, *rows):
        return [Crowd(self.stair(), ways) for ways in rows]

    def test_crowds(self):
        marks = Marks(self.stair(), {1: (3, 3), 2: (1, 1)})
        one, other, much = {(0, 1, 2, 3): 1, (0, 1, 3): 2}, {(0, 1, 3): 3, (0, 2, 3): 1}, {(0, 1, 3): 3}
        fitting = self.crowds(one, other)
        wrong = self.crowds(much, {}) + [one, Crowd(self.stair() - (0, 2), one), marks, {1: -1}]
        self.check(("fits", marks), fitting, wrong)
        self.check(("reaches", marks, {"feet": 1}, 4), fitting[1:], wrong + fitting[:1])
        self.check(("reaches", marks, {"feet": 1}, -7), fitting, wrong)
        self.check(("along", marks, (0, 1, 3), 3), fitting[1:], wrong + fitting[:1])
        self.check(("along", marks, (1, 2), 0), fitting, wrong)
        none = marks.with_mark("feet", 9, 9)
        self.check(("fits", none), [], fitting + wrong)
        self.check(("helps", none, [("low", "feet"), ("high", (0, 2))]), fitting, wrong)
        self.check(("helps", none, [("high", "feet")]), [], fitting + wrong)

    def test_clashes(self):
        none = Marks(self.stair(), {1: (3, 3), 2: (1, 1), (1, 3): (0, 1)})
        right = {1: -1, 2: 1, (1, 3): 1}
        thrice = {thing: 3 * price for thing, price in right.items()}
        wrong = [{1: -1}, {1: -1, 2: 1}, {2: 1}, {}, list(right.items()), {True: -1, 2: 1, (1, 3): 1},
                 Crowd(self.stair())]
        self.check(("clash", none), [right, thrice], wrong)
        self.check(("no help", none, [("high", 1), ("low", 2)]), [right, thrice], wrong)
        self.check(("no help", none, [("high", 1), ("high", 2)]), [], [right, thrice] + wrong)
        self.check(("no help", none, [("high", "feet"), ("low", 1)]), [], [right] + wrong)
        self.check(("clash", none.with_mark(2, 1, 9)), [], [right] + wrong)
        # By the eased marks this would be a clash, too: but it touches what is given up.
        self.check(("no help", none, [("low", (0, 2))]), [right], [{**right, (0, 2): -1}])
        # Without a way all prices below 0 are those of a clash, also where nothing is needed.
        bar = Marks(Stair(1, [(0, 1)]), {1: (1, None)})
        self.check(("no help", bar, [("low", "feet")]), [{1: -1}], [{1: -1, "feet": -1}])

    def test_tuples_of_a_crowd_and_prices(self):
        marks = Marks(self.stair(), {1: (3, 3), 2: (1, 1)})
        claim = ("stays", marks, {"feet": 1}, 4)
        crowd, many = self.crowds({(0, 1, 2, 3): 1, (0, 1, 3): 2}, {(0, 1, 3): 3})
        prices = {1: 1, 2: 1}
        self.check(claim, [(crowd, prices), (crowd, {2: 1, 1: 1})],
                   [[crowd, prices], (crowd,), (prices, crowd), (crowd, prices, 1), (many, prices), (crowd, {1: 1}),
                    (crowd, {}), (crowd, {1: 2, 2: 2}), (None, prices), (crowd, None), (crowd, [(1, 1), (2, 1)])])
        self.check(("stays", marks, {"feet": 1}, 3), [], [(crowd, prices)])
        self.check(("stays", marks, {"feet": -1}, -3), [(crowd, {1: -1})], [(crowd, prices), (crowd, {2: -1})])

    def test_short_papers_and_clashes_of_the_marks(self):
        marks = Marks(self.stair(), {1: (3, 3), 2: (1, 1), (2, 3): (0, 5)})
        claim = ("not along", marks, (0, 1, 2, 3), 2)
        short = ("clash", {2: 1, (1, 2): -1})
        self.check(claim, [short], [("high", (2, 3)), list(short), short[1], ("clash", {2: 1}), ("high", (1, 2))])
        self.check(("not along", marks, (0, 2, 3), 6), [("high", (2, 3))], [short, ("high", (0, 2)), ["high", (2, 3)]])
        self.check(("not along", marks, (0, 1, 2, 3), 1), [], [short])
        none = marks.with_mark((1, 3), 0, 1)
        whole = ("clash", {1: -1, 2: 1, (1, 3): 1})
        self.check(("not along", none, (0, 1, 3), 0), [whole], [short, whole[1], ("high", whole[1])])
        # A high is less than the number: a clash of the marks themselves is a paper all the same.
        self.check(("not along", none, (0, 1, 3), 2), [whole, ("high", (1, 3))], [short])

    def test_own_ways(self):
        stair = self.stair()
        ways = [(0, 1, 3), (0, 2, 3)]
        one, other = ("same", stair, stair - (1, 2)), ("other", stair, stair - (0, 2))
        self.check(one, [ways, tuple(ways)], [ways[::-1], ways[:1], ways + ways[1:], [list(way) for way in ways],
                                              [(0, True, 3), (0, 2, 3)], [(0, 1, 2, 3)], {(0, 1, 3): 1}, ways[0]])
        self.check(other, [(0, 2, 3), (0, 1, 2, 3)], [(0, 1, 3), [0, 2, 3], "023", (0, 3), (False, 2, 3), ways])
        self.check(("same", stair, stair - (0, 2)), [], [ways, [(0, 1, 3)], [(0, 1, 2, 3), (0, 1, 3)]])
        self.check(("other", stair, stair - (1, 2)), [], [ways[0], (0, 1, 2, 3), ways])

    def test_papers_of_other_claims(self):
        chance = random.Random(98)
        seen = []
        for marks, crowds in small_problems()[::3]:
            score = chance_score(chance, marks.stair, [-1, 1])
            claims = [("fits", marks), ("clash", marks), ("helps", marks, [("high", "feet")]),
                      ("no help", marks, [("high", "feet")]), ("reaches", marks, score, 1), ("stays", marks, score, 1)]
            claims += [(word, marks, run, 1) for run in runs_of(marks.stair)[:2] for word in ("along", "not along")]
            papers = [paper_of(claim) for claim in claims]
            for claim in claims:
                for paper in papers:
                    kinds = {"stays": tuple, "not along": tuple, "clash": dict, "no help": dict}
                    right = isinstance(paper, kinds.get(claim[0], Crowd)) and (
                        claim[0] != "stays" or isinstance(paper[0], Crowd)) and (
                        claim[0] != "not along" or isinstance(paper[0], str)) and shows(claim, paper)
                    seen.append(right)
                    self.assertIs(is_paper(claim, paper), right)
        self.assertEqual(set(seen), {True, False})


class Wrong(Refusals):
    def rows(self):
        """Values near claims of the stair of test_ways_wrong."""
        marks, stair, run, bounds = Marks(four_jumps(), {1: (1, 4)}), four_jumps(), (0, 1, 3), [("low", 1)]
        right = [("fits", marks), ("clash", marks), ("reaches", marks, {1: 1}, -1), ("stays", marks, {1: 1}, -1),
                 ("along", marks, run, 1), ("not along", marks, run, 1), ("helps", marks, bounds),
                 ("no help", marks, bounds), ("same", stair, Stair(2, [])), ("other", stair, Stair(2, []))]
        return marks, right

    def test_right_ones(self):
        for claim in self.rows()[1]:
            self.assertIs(is_claim(claim), True)

    def wrong_claims(self):
        marks, right = self.rows()
        wrong = odd_values() + [0, [], (), {}, marks, four_jumps(), ("fits",), "fits"]
        for claim in right:
            wrong += [claim[:-1], claim[1:], claim + claim[-1:], list(claim), (list(claim[:1]),) + claim[1:],
                      ("Fits",) + claim[1:], (claim[0] + " ",) + claim[1:], (1,) + claim[1:], (None,) + claim[1:],
                      (EqualToAll(),) + claim[1:], (claim[0].encode(),) + claim[1:], [claim], (claim,)]
            wrong += [claim[:1] + (value,) + claim[2:] for value in odd_values() + [0, [marks], marks.told(), (marks,)]
                      if not isinstance(value, Stair)]
        score = [("reaches", "stays"), wrong_scores(), 3]
        runs = [("along", "not along"), wrong_runs(), 1]
        bounds = [("helps", "no help"), odd_values() + [
            [("low", 1), ("low", 1)], [("low", 5)], [("mid", 1)], ("low", 1), [("low", True)], {("low", 1): 1},
            [["low", 1]], [1]], None]
        for words, values, number in (score, runs, bounds):
            for word in words:
                wrong += [(word, marks, value) + (() if number is None else (number,)) for value in values]
        for number in odd_values() + ["1", [1], (1,)]:
            wrong += [("reaches", marks, {1: 1}, number), ("stays", marks, {}, number)]
        for number in wrong_counts():
            wrong += [("along", marks, (0, 1), number), ("not along", marks, (0, 1), number)]
        for word in ("same", "other"):
            wrong += [(word, four_jumps(), Stair(3, [])), (word, Stair(1, []), four_jumps()), (word, marks, marks),
                      (word, four_jumps(), marks), (word, four_jumps(), four_jumps().jumps())]
        wrong += [("fits", four_jumps()), ("reaches", marks, {5: 1}, 1), ("along", marks, (0, 2, 4), 1),
                  ("helps", marks, [("low", (0, 4))]), ("fits", marks, marks), ("reaches", marks, 1, {1: 1})]
        return wrong

    def test_values_that_are_no_claims(self):
        for value in self.wrong_claims():
            self.assertIs(is_claim(value), False, value)
            self.refused(InvalidClaim, value, is_true, value)
            self.refused(InvalidClaim, value, paper_of, value)
            self.refused(InvalidClaim, value, is_paper, value, None)

    def test_claims_of_another_stair(self):
        for stair in small_stairs(3):
            marks = Marks(stair)
            for thing in large_stair().things():
                self.assertIs(is_claim(("helps", marks, [("low", thing)])), thing in stair.things())
                self.assertIs(is_claim(("stays", marks, {thing: 5}, 0)), thing in stair.things())
            self.assertIs(is_true(("clash", marks)), clash(marks) is not None)


if __name__ == "__main__":
    unittest.main()
