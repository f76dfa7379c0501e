"""Texts of stairs, crowds and marks, line by line, and which line is wrong."""

import random
import unittest

from tests.samples import all_jumps, chance_marks, chance_ways, large_stair, odd_values, plain_ways, some_stairs
from wornsteps.crowds import Crowd
from wornsteps.errors import InvalidText
from wornsteps.marks import Marks
from wornsteps.stairs import Stair
from wornsteps.texts import bytes_of, read_crowd, read_marks, read_stair, text_of

BIG = 10 ** 29

CROWD = "crowd 2\njump 0 1\njump 0 2\njump 1 2\njump 1 3\njump 2 3\nway 4 0 1 2 3\nway 1 0 2 3\n"
MARKS = ("marks 2\njump 0 1\njump 0 2\njump 1 2\njump 1 3\njump 2 3\nfeet 0 7\nstep 1 2 -\nstep 2 1 1\n"
         "stride 0 1 3 3\nstride 1 3 0 0\n")
STAIR = "stair 2\njump 0 1\njump 0 2\njump 1 2\njump 1 3\njump 2 3\n"

READERS = ((STAIR, read_stair), (CROWD, read_crowd), (MARKS, read_marks))


def plain_text(entry):
    """The text of a Stair, Crowd or Marks, as the document tells it."""
    stair = entry if isinstance(entry, Stair) else entry.stair
    rows = [f"{type(entry).__name__.lower()} {stair.steps}"]
    for jump in sorted(stair.jumps()):
        rows.append("jump %d %d" % jump)
    if isinstance(entry, Crowd):
        for way in sorted(entry.ways()):
            rows.append("way %d %s" % (entry[way], " ".join(map(str, way))))
    if isinstance(entry, Marks):
        for thing in stair.things():
            if entry[thing] != (0, None):
                words = ["stride", *thing] if isinstance(thing, tuple) else ["step", thing]
                words = ["feet"] if thing == "feet" else words
                low, high = entry[thing]
                rows.append(" ".join(map(str, words + [low, "-" if high is None else high])))
    return "".join(row + "\n" for row in rows)


def some_entries():
    """Stairs, crowds and marks, with their readers."""
    chance = random.Random(95)
    rows = []
    for stair in some_stairs() + [large_stair()]:
        rows.append((stair, read_stair))
        rows.append((Crowd(stair), read_crowd))
        rows.append((Crowd(stair, chance_ways(chance, stair, 60, 10 ** 30 - 1)), read_crowd))
        rows.append((Crowd(stair, chance_ways(chance, stair, 4, 3)), read_crowd))
        rows.append((Marks(stair), read_marks))
        rows.append((Marks(stair, chance_marks(chance, stair, 20, BIG // 100, 3)), read_marks))
        rows.append((Marks(stair, {thing: (k, k + 10 ** 30 - 200) for k, thing in enumerate(stair.things())}),
                     read_marks))
    return rows


class Telling(unittest.TestCase):
    def test_each_line(self):
        for entry, _ in some_entries():
            self.assertEqual(text_of(entry), plain_text(entry))
            self.assertEqual(bytes_of(entry), plain_text(entry).encode("ascii"))
        for text, read in READERS:
            self.assertEqual(text_of(entry=read(text)), text)
            self.assertIs(type(bytes_of(entry=read(text))), bytes)

    def test_read_back(self):
        for entry, read in some_entries():
            text = text_of(entry)
            found = read(text)
            self.assertIs(type(found), type(entry))
            self.assertEqual((found, text_of(found), repr(found)), (entry, text, repr(entry)))
            self.assertEqual(read(text=text), entry)

    def test_what_is_equal_has_the_same_text(self):
        stair = Stair(2, [(2, 3), (0, 1), (1, 3), (0, 2), (1, 2)])
        self.assertEqual(text_of(stair), STAIR)
        self.assertEqual(text_of(Crowd(stair, {(0, 2, 3): 1, (0, 1, 2, 3): 4})), CROWD)
        self.assertEqual(text_of(Marks(stair, {(1, 3): (0, 0), 2: (1, 1), (0, 1): (3, 3), "feet": (0, 7),
                                               (2, 3): (0, None), 1: (2, None)})), MARKS)
        self.assertEqual([text_of(read_stair("stair 1\n")), text_of(read_crowd("crowd 10\n")),
                          text_of(read_marks("marks 3\n"))], ["stair 1\n", "crowd 10\n", "marks 3\n"])


class Reading(unittest.TestCase):
    def wrong(self, read, text, line):
        with self.assertRaises(InvalidText, msg=repr(text)) as caught:
            read(text)
        self.assertEqual(caught.exception.line, line, text)

    def changed(self, text, line, *rows):
        """The text with these rows in the place of a line, from 1."""
        lines = text.split("\n")
        return "\n".join(lines[:line - 1] + list(rows) + lines[line:])

    def test_no_strings_and_other_texts(self):
        for text, read in READERS:
            for value in [value for value in odd_values() if not isinstance(value, str)] + [
                    0, [text], (text,), {text: 1}, text.encode("ascii"), read(text)]:
                self.wrong(read, value, 1)
            for other, _ in READERS:
                if other != text:
                    self.wrong(read, other, 1)
            for value in ("", "\n", "\n" + text, " " + text, "stair", "stair\n", "crowd 2", "marks", "x" * 1000):
                self.wrong(read, value, 1)

    def test_the_first_line(self):
        for text, read in READERS:
            word = text.split(" ")[0]
            for row in ("", word, f"{word} ", f"{word} 0", f"{word} 11", f"{word} 02", f"{word} +2", f"{word} -2",
                        f"{word}  2", f" {word} 2", f"{word} 2 ", f"{word} 2 2", f"{word.upper()} 2", "jump 0 1",
                        f"{word} two", f"{word} 2.0", f"{word} {10 ** 40}", f"{word}2", f"{word} " + "1" * 5000):
                self.wrong(read, self.changed(text, 1, row), 1)
            # The places of more, or fewer, steps are others.
            self.wrong(read, self.changed(text, 1, f"{word} 1"), 5)
        self.wrong(read_crowd, self.changed(CROWD, 1, "crowd 3"), 7)
        self.assertEqual(read_marks(self.changed(MARKS, 1, "marks 3")).stair.steps, 3)

    def test_lines_of_jumps(self):
        for text, read in READERS:
            for line in range(2, 7):
                row = text.split("\n")[line - 1]
                i, j = map(int, row.split(" ")[1:])
                for other in ("", "jump", f"jump {i}", f"jump {i} {j} {j}", f"jump {j} {i}", f"jump {i} {i}",
                              f"jump {i} 4", f"jump {i} 0{j}", f"jump 0{i} {j}", f"jump +{i} {j}", f"jump -{i} {j}",
                              f"jump {i}  {j}", f" {row}", f"{row} ", f"jump {i},{j}", f"Jump {i} {j}", "jump x y",
                              f"way 1 {i} {j}x", "fett 1 2", f"jump {i} {j}" + "0" * 40, f"jump - {j}"):
                    self.wrong(read, self.changed(text, line, other), line)
                self.wrong(read, self.changed(text, line, row, row), line + 1)
                self.wrong(read, self.changed(text, line, row, ""), line + 1)
            for line in range(2, 6):
                rows = text.split("\n")
                rows[line - 1:line + 1] = rows[line - 1:line + 1][::-1]
                self.wrong(read, "\n".join(rows), line + 1)
        self.wrong(read_stair, STAIR + "way 1 0 1 3\n", 7)
        self.wrong(read_stair, STAIR + "feet 1 1\n", 7)

    def test_a_jump_left_out(self):
        self.assertEqual(read_stair(self.changed(STAIR, 3)), Stair.of(2, 1, 2) - (0, 2))
        # What lacks the jump is wrong then: the way, or the mark.
        self.wrong(read_crowd, self.changed(CROWD, 3), 7)
        self.wrong(read_crowd, self.changed(CROWD, 4), 6)
        self.wrong(read_marks, self.changed(MARKS, 2), 9)
        self.assertEqual(read_marks(self.changed(MARKS, 3)).stair, Stair.of(2, 1, 2) - (0, 2))

    def test_the_41st_jump_and_the_61st_way(self):
        jumps = all_jumps(10)
        for word, read in (("stair", read_stair), ("crowd", read_crowd), ("marks", read_marks)):
            rows = [f"{word} 10"] + ["jump %d %d" % jump for jump in jumps]
            self.wrong(read, "\n".join(rows) + "\n", 42)
            self.wrong(read, "\n".join(rows[:42]) + "\n", 42)
            self.assertEqual(len(read("\n".join(rows[:41]) + "\n").jumps() if word == "stair" else read(
                "\n".join(rows[:41]) + "\n").stair), 40)
        head = text_of(Crowd(large_stair()))
        rows = ["way 1 " + " ".join(map(str, way)) + "\n" for way in plain_ways(large_stair())]
        self.assertEqual(len(read_crowd(head + "".join(rows[:60]))), 60)
        for many in (61, 70):
            self.wrong(read_crowd, head + "".join(rows[:many]), 102)

    def test_lines_of_ways(self):
        for row in ("", "way", "way 4", "way 0 0 1 2 3", "way 04 0 1 2 3", "way +4 0 1 2 3", "way -4 0 1 2 3",
                    "way 4 0 1 2", "way 4 1 2 3", "way 4 0 3", "way 4 0 1 1 3", "way 4 0 1 2 3 ", "way  4 0 1 2 3",
                    "way 4 0 01 2 3", "way 4 0 1 2 +3", "way 4 0 1 2 4", "way 4 0 1 2 3 4", "way x 0 1 2 3",
                    "ways 4 0 1", "way 4", "way 1" + "0" * 30 + " 0 1 2 3", "jump 2 3", "feet 1 1", "way - 0 1 2 3",
                    "way 4 0"):
            self.wrong(read_crowd, self.changed(CROWD, 7, row), 7)
        self.assertEqual(read_crowd(self.changed(CROWD, 7, "way " + "9" * 30 + " 0 1 2 3"))[(0, 1, 2, 3)], 10 ** 30 - 1)
        self.wrong(read_crowd, self.changed(CROWD, 8, "way 4 0 1 2 3"), 8)
        self.wrong(read_crowd, self.changed(CROWD, 7, "way 1 0 2 3"), 8)
        self.wrong(read_crowd, self.changed(CROWD, 7, "way 1 0 2 3", "way 1 0 1 3"), 8)
        self.wrong(read_crowd, CROWD + "jump 2 3\n", 9)
        self.assertEqual(len(read_crowd(self.changed(CROWD, 7))), 1)

    def test_lines_of_marks(self):
        for line, rows in ((7, ("feet 0 -", "feet 7", "feet", "feet 0 7 7", "feet 3 2", "feet - 7", "feet 00 7",
                                "feet 0 07", "feet 0 +7", "feet -1 7", "feet 0  7", " feet 0 7", "feet 0 7 ",
                                "Feet 0 7", "feet 0 x", "feet 0 --", "feet 1 1" + "0" * 30,
                                "feet 1" + "0" * 30 + " -", "",
                                "steps 1 1", "jump 2 3", "way 1 0 1 3")),
                           (8, ("step 1 0 -", "step 1 2", "step 2", "step 0 1 1", "step 3 1 1", "step 01 1 1",
                                "feet 0 7", "step 1 1 2 2", "step 1 3 2", "step x 1 1", "step - 1 1", "step feet 1 1")),
                           (10, ("stride 0 1 0 -", "stride 0 1 3", "stride 0 3 1 1", "stride 1 0 1 1", "step 2 1 1",
                                 "step 1 1 1", "feet 0 1", "stride 0 1 3 2", "stride 0 01 3 3", "stride (0, 1) 3 3")),
                           (11, ("stride 0 1 3 3", "step 2 1 1", "jump 2 3", ""))):
            for row in rows:
                self.wrong(read_marks, self.changed(MARKS, line, row), line)
        self.wrong(read_marks, self.changed(MARKS, 7, "step 1 2 -", "feet 0 7"), 8)
        self.wrong(read_marks, self.changed(MARKS, 8, "step 2 1 1", "step 1 2 -"), 9)
        for line in range(7, 12):
            row = MARKS.split("\n")[line - 1]
            self.wrong(read_marks, self.changed(MARKS, line, row, row), line + 1)
            self.assertEqual(len(read_marks(self.changed(MARKS, line))), 4)
        self.assertEqual(read_marks(self.changed(MARKS, 7, "feet 1 " + "9" * 30))["feet"], (1, 10 ** 30 - 1))

    def test_line_feeds(self):
        for text, read in READERS:
            lines = text.count("\n")
            self.wrong(read, text[:-1], lines)
            self.wrong(read, text + "\n", lines + 1)
            self.wrong(read, text + " ", lines + 1)
            self.wrong(read, text + "jump 2 3", lines + 1)
            self.wrong(read, text + text, lines + 1)
            self.wrong(read, text.replace("\n", "\n\n", 1), 2)
            self.wrong(read, text.replace("\n", " \n", 1), 1)
            for line in range(1, lines + 1):
                # The line feed behind a line left out, and a text that ends within a line.
                rows = text.split("\n")
                joined = "\n".join(rows[:line - 1] + [rows[line - 1] + rows[line]] + rows[line + 1:])
                self.wrong(read, joined, line)
                self.wrong(read, "\n".join(rows[:line]), line)
                self.wrong(read, "\n".join(rows[:line])[:-1], line)

    def test_the_first_wrong_line_of_several(self):
        self.wrong(read_marks, self.changed(MARKS, 9, "step 2 5 1") + "x\n", 9)
        self.wrong(read_crowd, self.changed(self.changed(CROWD, 8, "x"), 4, "y"), 4)
        self.wrong(read_stair, "stair 2\njump 0 1\njump 0 9\njump 0 1", 3)


if __name__ == "__main__":
    unittest.main()
