"""What crowds refuse: which error, with which value, and which comes first."""

import unittest

from tests.samples import EqualToAll, large_stair, odd_values, plain_ways
from tests.test_ways_wrong import stair, wrong_counts, wrong_things, wrong_ways
from wornsteps.crowds import Crowd
from wornsteps.errors import InvalidCount, InvalidRun, InvalidThing, InvalidWay, InvalidWays, UnknownWay


def wrong_crowds():
    """Values that are no dict from ways to COUNTS of at least 1."""
    rows = [value for value in odd_values() if value is not None and not isinstance(value, dict)]
    rows += [1, [], (), [(0, 1, 3)], [((0, 1, 3), 1)], Crowd(stair())]
    for way in wrong_ways():
        try:
            rows.append({(0, 2, 3): 1, way: 1})
        except TypeError:
            pass  # Such a value can be no key.
    for number in odd_values() + [0, -1, -10 ** 29, [1], (1,), [], ()]:
        rows.append({(0, 2, 3): 1, (0, 1, 3): number})
        rows.append({(0, 2, 3): number})
    return rows


def wrong_runs():
    """Values that are no run of the stair of test_ways_wrong."""
    return odd_values() + [1, (), (0,), (3,), (0, 3), (1, 2), (0, 1, 2), (0, 1, 2, 3), (1, 0), (0, 0), [0, 1],
                           (0, True), (False, 1), (True, 3), (0, 1, 3, 4), ((0, 1),), ((0, 1), (1, 3)), "01", (0, "1"),
                           (0, None), (0, [1]), (-1, 1), {0: 1}, (0, EqualToAll())]


class Refusals(unittest.TestCase):
    def refused(self, error, value, action, *values):
        with self.assertRaises(error) as caught:
            action(*values)
        self.assertIs(type(caught.exception), error)
        self.assertIs(caught.exception.value, value)


class Wrong(Refusals):
    def test_dicts(self):
        for ways in wrong_crowds():
            self.refused(InvalidWays, ways, Crowd, stair(), ways)
            self.refused(InvalidWays, ways, lambda wrong: Crowd(ways=wrong, stair=stair()), ways)

    def test_ways(self):
        crowd = Crowd.of(stair(), (0, 1, 3))
        for way in wrong_ways():
            self.refused(InvalidWay, way, Crowd.of, stair(), (0, 1, 3), way, None)
            self.refused(InvalidWay, way, lambda wrong: crowd[wrong], way)
            self.refused(InvalidWay, way, lambda wrong: crowd + wrong, way)
            self.refused(UnknownWay, way, lambda wrong: crowd - wrong, way)
            self.assertIs(way in crowd, False)
        self.refused(UnknownWay, (0, 2, 3), lambda wrong: crowd - wrong, (0, 2, 3))
        self.refused(UnknownWay, crowd, lambda wrong: crowd - wrong, crowd)
        self.refused(InvalidWay, crowd, lambda wrong: crowd[wrong], crowd)
        self.assertEqual(crowd.ways(), {(0, 1, 3): 1})

    def test_numbers(self):
        crowd = Crowd.of(stair(), (0, 1, 3))
        for many in wrong_counts() + [crowd, stair()]:
            if not isinstance(many, bytes):
                self.refused(InvalidCount, many, lambda wrong: wrong * crowd, many)
            self.refused(InvalidCount, many, lambda wrong: crowd * wrong, many)

    def test_things_and_runs(self):
        crowd = Crowd.of(stair(), (0, 1, 3))
        for thing in wrong_things():
            self.refused(InvalidThing, thing, crowd.wear, thing)
        for run in wrong_runs():
            self.refused(InvalidRun, run, crowd.along, run)

    def test_which_comes_first(self):
        ways = {way: 1 for way in plain_ways(large_stair())[:70]}
        ways[(0, 11)] = 0
        self.refused(InvalidWays, ways, Crowd, large_stair(), ways)
        self.refused(InvalidWay, 5, Crowd.of, large_stair(), *list(ways)[:65], 5, None)
        self.refused(InvalidWay, (0, 3), Crowd.of, stair(), (0, 3), (0, 1))


if __name__ == "__main__":
    unittest.main()
