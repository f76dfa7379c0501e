"""The examples of the document, as they stand there."""

import doctest
import unittest

STAGE_1 = """
>>> from wornsteps.stairs import Stair
>>> from wornsteps.ways import all_ways, dead, highest, many_ways, passed
>>> stair = Stair.of(2, 1, 2)
>>> [stair.jumps(), many_ways(stair), list(all_ways(stair)), stair((0, 2, 3)), stair([0, 2, 3])]
[[(0, 1), (0, 2), (1, 2), (1, 3), (2, 3)], 3, [(0, 1, 2, 3), (0, 1, 3), (0, 2, 3)], True, False]
>>> [passed(stair, (0, 1, 3)), highest(stair, {1: 2, (0, 2): 2}), dead(stair - (0, 1)), stair - (0, 1)]
[['feet', 1, (0, 1), (1, 3)], (2, (0, 1, 2, 3)), [1, (1, 2), (1, 3)], Stair(2, [(0, 2), (1, 2), (1, 3), (2, 3)])]
"""

STAGE_2 = """
>>> from wornsteps.crowds import Crowd
>>> from wornsteps.flows import along_greatest, along_least, are_exchanges, split
>>> crowd = Crowd.of(stair, (0, 1, 2, 3), (0, 1, 3)) + (0, 2, 3)
>>> [crowd.feet, crowd.wears(), crowd.along((0, 1, 2)), crowd * 2 - (0, 1, 3)]
[3, {'feet': 3, 1: 2, 2: 2, (0, 1): 2, (0, 2): 1, (1, 2): 1, (1, 3): 1, (2, 3): 2}, 1, Crowd(Stair(2, [(0, 1), (0, 2), (1, 2), (1, 3), (2, 3)]), {(0, 1, 2, 3): 2, (0, 1, 3): 1, (0, 2, 3): 2})]
>>> three = Stair.of(3, 1, 2)
>>> one, other = Crowd.of(three, (0, 1, 2, 3, 4), (0, 2, 4)), Crowd.of(three, (0, 1, 2, 4), (0, 2, 3, 4))
>>> [one.flow() == other.flow(), are_exchanges(one, other, [((0, 1, 2, 3, 4), (0, 2, 4), 2, 1)]), along_least(three, one.flow(), (1, 2, 3)), along_greatest(three, one.flow(), (1, 2, 3))]
[True, True, 0, 1]
"""

STAGE_3 = """
>>> from wornsteps.fits import does_fit, is_clash, worth
>>> from wornsteps.marks import Marks
>>> marks = Marks(stair, {1: (3, 3), 2: (1, 1)})
>>> [does_fit(marks), marks(Crowd(stair, {(0, 1, 2, 3): 1, (0, 1, 3): 2})), marks(crowd), marks["feet"]]
[True, True, False, (0, None)]
>>> none = marks.with_mark((1, 3), 0, 1)
>>> [does_fit(none), is_clash(none, {1: -1, 2: 1, (1, 3): 1}), worth(none, {1: -1, 2: 1, (1, 3): 1}), is_clash(none, {1: -1})]
[False, True, -1, False]
"""

STAGE_4 = """
>>> from wornsteps.scores import are_prices, greatest, least, range_of, sure
>>> [range_of(marks, "feet"), range_of(marks, (1, 3)), greatest(marks, {"feet": 1, (1, 2): 5}), sure(marks)]
[(3, 4), (2, 3), 8, ['feet', 1, 2, (0, 1), (1, 3), (2, 3)]]
>>> [are_prices(marks, {(1, 3): -1}, -2, {1: -1, 2: 1}), least(marks, {(0, 2): 1}), are_prices(marks, {(0, 2): 1}, 1, {2: 1})]
[True, 0, True]
"""

STAGE_5 = """
>>> from wornsteps.blame import helps, least_helps, mended, moments, touched
>>> from wornsteps.runs import along_range, is_short_paper
>>> [along_range(marks, (0, 1, 2)), along_range(marks, (0, 1, 3)), is_short_paper(marks, (0, 1, 2, 3), 2, ("clash", {2: 1, (1, 2): -1})), is_short_paper(none, (1, 3), 2, ("high", (1, 3)))]
[(0, 1), (2, 3), True, True]
>>> [touched(none, {1: -1, 2: 1, (1, 3): 1}), helps(none, [("high", 2)]), least_helps(none, [("low", 1), ("low", 2), ("high", 2)]), mended(none, 1), moments(stair, [(0, 1, 3), (0, 2, 3), (0, 1, 3)], 1, (1, 1))]
[[('low', 1), ('high', 2), ('high', (1, 3))], True, [[('low', 1)], [('high', 2)]], [[2]], [1, 2]]
"""

STAGE_6 = """
>>> from wornsteps.beside import are_alike, bare, can_show, first_lacking, own_ways, parting
>>> [own_ways(stair), parting(stair, (0, 1, 2, 3)), bare(stair).jumps(), can_show(stair - (0, 1), {2: 4}), can_show(stair - (0, 1), {1: 1})]
[[(0, 1, 3), (0, 2, 3)], [(0, 1, 3), (0, 2, 3)], [(0, 1), (0, 2), (1, 3), (2, 3)], True, False]
>>> [are_alike(stair, bare(stair)), first_lacking(stair, stair - (0, 2)), own_ways(stair - (0, 2))]
[True, (0, 2, 3), [(0, 1, 2, 3), (0, 1, 3)]]
"""

STAGE_7 = """
>>> from wornsteps.habits import Habit, JustOnce, Study, Without
>>> from wornsteps.shares import fitting_shares, is_denial, share_greatest, surely_there
>>> study = Study(three, {"once": JustOnce(2)})
>>> each = {1: (1, 1), 2: (1, 1), 3: (1, 1)}
>>> [study.pairs(), fitting_shares(study, each), share_greatest(study, each, {"once": 2})]
[[('once', (0, 1, 2, 4)), ('once', (0, 1, 3, 4)), ('once', (0, 2, 3, 4))], {('once', (0, 1, 2, 4)): (1, 2), ('once', (0, 1, 3, 4)): (1, 2), ('once', (0, 2, 3, 4)): (1, 2)}, (3, 1)]
>>> both = Study(three, {"once": JustOnce(2), "plain": Without(2)})
>>> [len(both), surely_there(both, {"feet": (1, 1), 2: (0, 0)}), JustOnce(2)((0, 2, 3, 4)), JustOnce(2).reads([2, 1, 2])]
[4, ['once'], True, None]
"""

STAGE_8 = """
>>> from wornsteps.measuring import are_width_prices, best_measure, width
>>> from wornsteps.narrowing import narrower
>>> [width(marks, {"feet": 1}, 1), width(marks, {"feet": 1}, (0, 2)), best_measure(marks, {"feet": 1})]
[1, 0, ('feet', 0)]
>>> [narrower(marks)[(1, 2)], are_width_prices(marks, {"feet": 1}, (0, 2), 0, ({1: 1, (0, 2): 1}, {1: -1, (0, 2): -1}))]
[(0, 1), True]
"""

STAGE_9 = """
>>> from wornsteps.desk import Desk, tried
>>> from wornsteps.texts import text_of
>>> text_of(marks)
'marks 2\\njump 0 1\\njump 0 2\\njump 1 2\\njump 1 3\\njump 2 3\\nstep 1 3 3\\nstep 2 1 1\\n'
>>> desk = Desk(marks)
>>> [desk.do("range feet"), desk.do_all("stride 1 3 0 1", "fits"), desk.do("ease high step 2"), desk.do("range step 2"), len(desk)]
['3 4', ['done', 'no'], 'done', '2 -', 2]
>>> [tried(desk, lambda held: held.do("measure step 2 3")), desk[2], desk.undo(), desk.do("fits")]
['done', (1, None), None, 'no']
"""


class Examples(unittest.TestCase):
    def test_each_example_gives_what_stands_below_it(self):
        # An example may use what one of a stage ahead of it made.
        told = {}
        for name, text, many in (("stage 1", STAGE_1, 5), ("stage 2", STAGE_2, 7), ("stage 3", STAGE_3, 6),
                                 ("stage 4", STAGE_4, 3), ("stage 5", STAGE_5, 4), ("stage 6", STAGE_6, 3),
                                 ("stage 7", STAGE_7, 7), ("stage 8", STAGE_8, 4), ("stage 9", STAGE_9, 6)):
            example = doctest.DocTestParser().get_doctest(text, told, name, None, 0)
            self.assertEqual(len(example.examples), many, name)
            report = []
            found = doctest.DocTestRunner(verbose=False).run(example, out=report.append, clear_globs=False)
            self.assertEqual(found.failed, 0, "".join(report))
            told = example.globs


if __name__ == "__main__":
    unittest.main()
