"""Marks that are asked again and again, of a stair of five steps, against dicts that the test keeps itself."""

import random
import unittest

from tests.samples import EqualToAll, all_jumps, chance_marks, odd_values
from wornsteps.blame import eased
from wornsteps.errors import InvalidMark, InvalidMarks, InvalidThing, Unmeeting
from wornsteps.marks import Marks
from wornsteps.names import TEXTS
from wornsteps.stairs import Stair

BIG = 10 ** 29

THINGS = ["feet", 1, 2, 3, 4, 5] + [jump for jump in all_jumps(5) if jump[1] - jump[0] <= 4]


def stair():
    return Stair.of(5, 1, 2, 3, 4)


def others():
    """Values that are no things of the stair, some of them equal to one, or with the hash of one."""
    return [value for value in odd_values() if value != "feet" or not isinstance(value, str)] + [
        True, False, 0, 6, -1, 10 ** 30, (0, True), (True, 2), (False, 1), (False, True), (0, 5), (0, 6), (1, 0), (0,),
        (0, 1, 2), (), [0, 1], [], ["feet"], ("feet",), (0, [1]), ([0], 1), (0, None), (EqualToAll(), EqualToAll()),
        (0, EqualToAll()), (1 + 0j), (0, 1 + 0j), "FEET", "1", b"feet", (0, "1"), {1: 1}, {1}]


def whole(chance):
    """A dict that tells a mark of each thing, other ones than (0, None)."""
    told = {}
    for thing in THINGS:
        low = chance.choice([0, 1, 2, 5, BIG])
        told[thing] = (low, chance.choice([None] * (low > 0) + [low, low + 1, low + 7, BIG + low]))
    return told


def in_order(told):
    return {thing: told[thing] for thing in THINGS if told.get(thing, (0, None)) != (0, None)}


def text_of(told):
    """The text of the marks of the stair that tell these."""
    return f"Marks(Stair(5, {THINGS[6:]!r}), {in_order(told)!r})"


def both_of(one, other):
    """The dict of both marks, and the first thing whose marks do not meet, or None."""
    both = {}
    for thing in THINGS:
        (low, high), (least, most) = one.get(thing, (0, None)), other.get(thing, (0, None))
        tops = [top for top in (high, most) if top is not None]
        both[thing] = (max(low, least), min(tops) if tops else None)
        if tops and max(low, least) > min(tops):
            return both, thing
    return in_order(both), None


class Often(unittest.TestCase):
    def check(self, marks, told):
        """Everything that the marks answer is what the dict has."""
        self.assertEqual([marks[thing] for thing in THINGS], [told.get(thing, (0, None)) for thing in THINGS])
        self.assertEqual([thing in marks for thing in THINGS], [thing in in_order(told) for thing in THINGS])
        self.assertEqual(repr(marks), text_of(told))
        self.assertEqual((marks.told(), list(marks.told()), len(marks)), (in_order(told), list(in_order(told)),
                                                                          len(in_order(told))))
        for again in (Marks(stair(), told), Marks(stair(), dict(reversed(list(told.items())))), eval(repr(marks))):
            self.assertTrue(again == marks and repr(again) == repr(marks))

    def rows(self):
        """Dicts of marks: whole ones, some that tell a few things, and none."""
        chance = random.Random(121)
        rows = [{}, {thing: (0, None) for thing in THINGS}]
        for _ in range(40):
            rows.append(whole(chance))
            rows.append(chance_marks(chance, stair(), 6, chance.choice([3, BIG]), 2))
        return rows

    def test_what_is_told(self):
        for told in self.rows():
            marks = Marks(stair(), told)
            self.check(marks, told)
            marks.told().clear()
            marks.told()["feet"] = None
            self.check(marks, told)

    def test_other_values(self):
        for told in self.rows()[:8]:
            marks = Marks(stair(), told)
            for value in others():
                self.assertIs(value in marks, False)
                self.assertIs(value in marks.stair, False)
                for action in (lambda: marks[value], lambda: marks.with_mark(value, 0),
                               lambda: marks.with_mark(value, -1)):
                    with self.assertRaises(InvalidThing) as caught:
                        action()
                    self.assertIs(caught.exception.value, value)
            self.check(marks, told)

    def test_with_another_mark(self):
        chance = random.Random(122)
        for told in self.rows():
            marks = Marks(stair(), told)
            for thing in THINGS:
                for low, high in ((0, None), (0, 0), (3, BIG), (BIG, None)):
                    other = {**told, thing: (low, high)}
                    found = marks.with_mark(thing, low, high)
                    self.assertEqual((repr(found), found[thing]), (text_of(other), (low, high)))
            thing = chance.choice(THINGS)
            self.check(marks.with_mark(thing, 1, 2), {**told, thing: (1, 2)})
            self.check(marks.with_mark(thing, 1, 2).with_mark(thing, 0), {**told, thing: (0, None)})
            for mark in ((1, 0), (True, None), (0, False), (-1, 1), (None, None), ("0", 1)):
                with self.assertRaises(InvalidMark) as caught:
                    marks.with_mark(thing, *mark)
                self.assertEqual(caught.exception.value, mark)
            self.check(marks, told)

    def test_both_together(self):
        seen = set()
        rows = self.rows()
        for one, other in zip(rows, rows[3:] + rows[:3]):
            for first, second in ((one, other), (other, one), (one, one)):
                both, wrong = both_of(first, second)
                seen.add(wrong is None)
                if wrong is None:
                    self.check(Marks(stair(), first) & Marks(stair(), second), both)
                else:
                    with self.assertRaises(Unmeeting) as caught:
                        Marks(stair(), first) & Marks(stair(), second)
                    self.assertEqual(caught.exception.value, wrong)
        self.assertEqual(seen, {True, False})

    def test_dicts_that_are_no_marks(self):
        chance = random.Random(123)
        told = whole(chance)
        for thing in THINGS:
            for mark in ((1, 0), (True, None), (0, True), (0, False), (-1, 1), (None, 1), [0, 1], (0,), (0, 1, 2), None,
                         (0, "1"), (EqualToAll(), 1), (1 + 0j, None), 5):
                wrong = {**told, thing: mark}
                with self.assertRaises(InvalidMarks) as caught:
                    Marks(stair(), wrong)
                self.assertIs(caught.exception.value, wrong)
        for value in others():
            try:
                rest = {thing: told[thing] for thing in THINGS if not thing == value}
                rest[value] = (0, 5)
            except TypeError:
                continue  # Such a value can be no key.
            with self.assertRaises(InvalidMarks) as caught:
                Marks(stair(), rest)
            self.assertIs(caught.exception.value, rest)

    def test_what_other_files_make(self):
        for told in self.rows():
            bounds = [("low", thing) for thing in THINGS[::3]] + [("high", thing) for thing in THINGS[::2]]
            left = {thing: (0 if ("low", thing) in bounds else low, None if ("high", thing) in bounds else high)
                    for thing, (low, high) in told.items()}
            self.check(eased(Marks(stair(), told), bounds), left)


class Texts(unittest.TestCase):
    def test_of_all_things(self):
        things = ["feet", *range(1, 11), *all_jumps(10)]
        self.assertEqual(TEXTS, {thing: repr(thing) for thing in things})

    def test_of_all_jumps(self):
        for steps in range(1, 11):
            for jump in all_jumps(steps):
                self.assertEqual(repr(Stair(steps, [jump])), f"Stair({steps}, [{jump!r}])")
                marks = Marks(Stair(steps, [jump]), {jump: (0, 1), steps: (2, None), "feet": (3, 4)})
                told = "{'feet': (3, 4), %d: (2, None), %r: (0, 1)}" % (steps, jump)
                self.assertEqual(repr(marks), f"Marks(Stair({steps}, [{jump!r}]), {told})")


if __name__ == "__main__":
    unittest.main()
