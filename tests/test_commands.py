"""Commands of a desk: their answers and what they change, what is no command, and many commands as one."""

import random
import unittest

from tests.samples import large_stair, odd_values
from tests.test_crowds_wrong import Refusals
from tests.test_fits import large_marks
from tests.test_runs import runs_of
from wornsteps.blame import eased
from wornsteps.desk import Desk
from wornsteps.errors import (CommandFailed, InvalidCommand, NotBetween, NothingFits, NothingToUndo)
from wornsteps.fits import does_fit
from wornsteps.marks import Marks
from wornsteps.runs import along_range
from wornsteps.scores import range_of
from wornsteps.stairs import Stair

BIG = 10 ** 29


def begin():
    return Marks(Stair.of(2, 1, 2), {1: (3, 3), 2: (1, 1)})


def words_of(thing):
    if thing == "feet":
        return "feet"
    return "stride %d %d" % thing if isinstance(thing, tuple) else f"step {thing}"


def told(numbers):
    return " ".join("-" if number is None else str(number) for number in numbers)


class Answers(unittest.TestCase):
    def test_what_is_asked(self):
        chance = random.Random(101)
        seen = set()
        for marks in large_marks():
            desk = Desk(marks)
            self.assertEqual(desk.do("fits"), "yes" if does_fit(marks) else "no")
            runs = runs_of(marks.stair) if len(marks.stair) < 15 else [(0, 1), (0, 1, 2)]
            rows = [("range " + words_of(thing), range_of, thing) for thing in chance.sample(marks.stair.things(), 2)]
            rows += [("along " + " ".join(map(str, run)), along_range, run)
                     for run in chance.sample(runs, min(2, len(runs))) if marks.stair.is_run(run)]
            for command, action, value in rows:
                if does_fit(marks):
                    answer = desk.do(command=command)
                    self.assertEqual(answer, told(action(marks, value)))
                    seen.add(answer.endswith("-"))
                else:
                    with self.assertRaises(NothingFits):
                        desk.do(command)
            self.assertEqual((desk.marks, len(desk)), (marks, 0))
        self.assertEqual(seen, {True, False})

    def test_examples(self):
        desk = Desk(begin())
        self.assertEqual([desk.do("range feet"), desk.do("range step 1"), desk.do("range stride 1 3"),
                          desk.do("along 0 1 3"), desk.do("along 0 2"), desk.do("fits")],
                         ["3 4", "3 3", "2 3", "2 3", "0 1", "yes"])
        self.assertEqual([desk.do_all("stride 1 3 0 1", "fits"), desk.do("ease high step 2"), desk.do("range step 2"),
                          len(desk)], [["done", "no"], "done", "2 -", 2])

    def test_what_is_set(self):
        for stair in (begin().stair, large_stair()):
            for thing in stair.things():
                for low, high in ((0, 0), (0, None), (2, 5), (BIG, None), (0, 10 ** 30 - 1)):
                    desk = Desk(Marks(stair, {1: (1, 1)}))
                    self.assertEqual(desk.do(f"{words_of(thing)} {told((low, high))}"), "done")
                    self.assertEqual((desk.marks, len(desk)), (Marks(stair, {1: (1, 1), thing: (low, high)}), 1))
                    desk.undo()
                    self.assertEqual(desk.marks.told(), {1: (1, 1)})

    def test_measured_eased_and_taken_back(self):
        desk = Desk(begin())
        self.assertEqual(desk.do("measure feet 4"), "done")
        self.assertEqual((desk["feet"], desk.do("range stride 0 2"), len(desk)), ((4, 4), "1 1", 1))
        for side in ("low", "high"):
            for thing in begin().stair.things():
                other = Desk(desk.marks)
                self.assertEqual(other.do(f"ease {side} {words_of(thing)}"), "done")
                self.assertEqual((other.marks, len(other)), (eased(desk.marks, [(side, thing)]), 1))
        self.assertEqual((desk.do("undo"), desk.marks, len(desk)), ("done", begin(), 0))
        with self.assertRaises(NothingToUndo):
            desk.do("undo")
        for command, limits in (("measure feet 5", (3, 4)), ("measure step 1 0", (3, 3)),
                                ("measure stride 0 2 2", (0, 1))):
            with self.assertRaises(NotBetween) as caught:
                desk.do(command)
            self.assertEqual((caught.exception.least, caught.exception.greatest), limits)
        desk.do("feet 9 9")
        for command in ("measure feet 9", "range feet", "along 0 1"):
            with self.assertRaises(NothingFits):
                desk.do(command)
        self.assertEqual((desk.marks, len(desk)), (begin().with_mark("feet", 9, 9), 1))

    def test_thirty_digits(self):
        desk = Desk(Marks(Stair.of(2, 1, 2)))
        most = "9" * 30
        self.assertEqual(desk.do_all(f"feet {most} {most}", "range feet", f"measure step 1 {most}", "range step 2"),
                         ["done", f"{most} {most}", "done", f"0 {most}"])


class Refused(Refusals):
    def test_strings_that_are_no_commands(self):
        desk = Desk(begin())
        right = ["fits", "undo", "range feet", "range step 1", "range stride 0 1", "along 0 1", "along 0 1 2",
                 "feet 1 2", "step 1 2 -", "stride 0 1 2 3", "measure feet 3", "measure step 1 3",
                 "measure stride 0 1 3", "ease low feet", "ease high step 1", "ease low stride 0 1"]
        rows = ["", " ", "-", "fit", "mark", "Fits", "help", "fits fits", "undo 1", "range", "along", "along 0", "feet",
                "step", "stride", "measure", "ease", "range 1", "range step", "range step 0", "range step 3",
                "range step 01", "range step +1", "range step -1", "range step -", "range step 1 2", "range stride 0 3",
                "range stride 1 0", "range stride 0", "range stride 0 1 2", "range feet 1", "range feet feet",
                "range step 1.0", "range step one", "along 1", "along 0 3", "along 1 0", "along 0 1 1",
                "along 0 1 2 3 4", "along 0 01", "along 0,1", "along (0, 1)", "along 0 -", "along feet", "feet 1",
                "feet 2 1", "feet - 1", "feet 1 -1", "feet 01 2", "feet 1 02", "feet 1 +2", "feet 1 2 3", "feet x 1", "feet - -", "step 1 2",
                "step 3 1 2", "step 0 1 2", "step 1 2 1", "step 01 1 2", "stride 0 1 2", "stride 0 3 1 1",
                "stride 1 0 1 1", "stride 0 1 3 2", "measure 3", "measure feet", "measure feet -", "measure feet 03",
                "measure feet -3", "measure step 3 1", "measure step 1", "measure stride 0 3 1", "measure feet 3 3",
                "ease feet", "ease low", "ease low step", "ease low step 3", "ease Low feet", "ease both feet",
                "ease low stride 0 3", "ease low feet 1", "ease low high feet", "do fits", "yes", "done", "fits\nundo",
                "range  feet", "feet 1 1" + "0" * 30, "feet 1" + "0" * 30 + " -", "measure feet 1" + "0" * 30,
                "feet " + "1" * 5000 + " -", "along 0 1" + "0" * 31, "feet 1 2-", "range feets"]
        for command in right:
            rows += [command + " ", " " + command, command + "\n", command.upper(), command + " x", "do " + command]
            if " " in command:
                rows += [command.replace(" ", "  ", 1), command.replace(" ", "\n", 1), command.replace(" ", "", 1)]
        for command in rows:
            self.refused(InvalidCommand, command, desk.do, command)
            with self.assertRaises(CommandFailed) as caught:
                desk.do_all("feet 0 9", command, "undo")
            self.assertEqual(caught.exception.position, 1)
            self.assertIs(type(caught.exception.__cause__), InvalidCommand)
            self.assertEqual(caught.exception.__cause__.value, command)
        self.assertEqual((desk.marks, len(desk)), (begin(), 0))
        for command in right:
            Desk(begin()).do_all("feet 0 9", command)

    def test_values_of_all_kinds(self):
        desk = Desk(begin())
        for value in odd_values() + [0, 1, ["fits"], ("fits",), {"fits": 1}, b"fits", ("range", "feet"), desk]:
            self.refused(InvalidCommand, value, desk.do, value)
            with self.assertRaises(CommandFailed) as caught:
                desk.do_all(value)
            self.assertEqual(caught.exception.position, 0)
            self.assertIs(caught.exception.__cause__.value, value)
        self.assertEqual((desk.marks, len(desk)), (begin(), 0))

    def test_runs_of_the_stair_that_stands(self):
        desk = Desk(Marks(begin().stair - (0, 1)))
        for command in ("along 0 1", "range stride 0 1", "stride 0 1 1 1", "ease low stride 0 1",
                        "measure stride 0 1 0", "along 0 1 2"):
            self.refused(InvalidCommand, command, desk.do, command)
        self.assertEqual([desk.do("along 1 2 3"), desk.do("along 0 2 3")], ["0 0", "0 -"])


class Whole(unittest.TestCase):
    def test_answers_in_their_sequence(self):
        desk = Desk(begin())
        self.assertEqual(desk.do_all(), [])
        answers = desk.do_all("feet 4 4", "range stride 0 2", "undo", "range stride 0 2", "ease low step 1", "fits")
        self.assertEqual(answers, ["done", "1 1", "done", "0 1", "done", "yes"])
        self.assertIs(type(answers), list)
        self.assertEqual((len(desk), desk[1]), (1, (0, 3)))
        desk.undo()
        self.assertEqual(desk.marks, begin())

    def test_not_at_all(self):
        desk = Desk(begin())
        desk["feet"] = (0, 9)
        before = (desk.marks, len(desk))
        for commands, error in ((("feet 4 4", "undo", "undo", "undo"), NothingToUndo), (("fits", "x"), InvalidCommand),
                                (("feet 1 1", "range feet"), NothingFits),
                                (("measure feet 4", "ease low step 1", "measure step 1 9"), NotBetween)):
            with self.assertRaises(CommandFailed) as caught:
                desk.do_all(*commands)
            self.assertEqual(caught.exception.position, len(commands) - 1)
            self.assertIs(type(caught.exception.__cause__), error)
            self.assertEqual((desk.marks, len(desk)), before)
        with self.assertRaises(CommandFailed) as caught:
            desk.do_all("measure feet 8", "fits")
        self.assertEqual((caught.exception.__cause__.least, caught.exception.__cause__.greatest), (3, 4))
        # What could be taken back ahead still can, just as often.
        desk.undo()
        self.assertEqual((desk.marks, len(desk)), (begin(), 0))

    def test_a_hundred_commands(self):
        desk = Desk(begin())
        self.assertEqual(desk.do_all(*[f"feet 0 {k}" for k in range(100)]), ["done"] * 100)
        self.assertEqual((len(desk), desk["feet"]), (100, (0, 99)))


if __name__ == "__main__":
    unittest.main()
