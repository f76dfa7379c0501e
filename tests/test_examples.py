"""The examples of the document, as they stand there."""

import doctest
import unittest

STAGE_1 = """
>>> from wornsteps.stairs import Stair
>>> from wornsteps.ways import all_ways, dead, highest, many_ways, passed
>>> stair = Stair.of(2, 1, 2)
>>> [stair.jumps(), many_ways(stair), list(all_ways(stair)), stair((0, 2, 3)), stair([0, 2, 3])]
[[(0, 1), (0, 2), (1, 2), (1, 3), (2, 3)], 3, [(0, 1, 2, 3), (0, 1, 3), (0, 2, 3)], True, False]
>>> [passed(stair, (0, 1, 3)), highest(stair, {1: 2, (0, 2): 2}), dead(stair - (0, 1)), stair - (0, 1)]
[['feet', 1, (0, 1), (1, 3)], (2, (0, 1, 2, 3)), [1, (1, 2), (1, 3)], Stair(2, [(0, 2), (1, 2), (1, 3), (2, 3)])]
"""


class Examples(unittest.TestCase):
    def test_each_example_gives_what_stands_below_it(self):
        example = doctest.DocTestParser().get_doctest(STAGE_1, {}, "stage 1", None, 0)
        self.assertEqual(len(example.examples), 5)
        report = []
        found = doctest.DocTestRunner(verbose=False).run(example, out=report.append)
        self.assertEqual(found.failed, 0, "".join(report))


if __name__ == "__main__":
    unittest.main()
