"""Texts of stairs, crowds and marks, and how they are read."""

from wornsteps.checks import FREE, Ready, is_jump, is_way
from wornsteps.crowds import Crowd
from wornsteps.errors import InvalidText
from wornsteps.marks import right_marks
from wornsteps.stairs import Stair
from wornsteps.words import count_in, counts_in, mark_in, thing_in, told_number, told_thing


def stair_lines(word, stair):
    """The lines that tell a stair, the first one with a word for the whole text."""
    return [f"{word} {stair.steps}"] + [f"jump {i} {j}" for i, j in stair.jumps()]


def way_line(many, way):
    """The line of a way with its feet."""
    places = " ".join([str(place) for place in way])
    return f"way {many} {places}"


def lines_of(entry):
    """The lines of the text of a Stair, Crowd or Marks."""
    if isinstance(entry, Stair):
        return stair_lines("stair", entry)
    if isinstance(entry, Crowd):
        return stair_lines("crowd", entry.stair) + [way_line(many, way) for way, many in entry.ways().items()]
    return stair_lines("marks", entry.stair) + [
        f"{told_thing(thing)} {low} {told_number(high)}" for thing, (low, high) in entry.told().items()]


def text_of(entry):
    """The text of a Stair, Crowd or Marks."""
    return "".join([f"{line}\n" for line in lines_of(entry)])


def bytes_of(entry):
    """The text of a Stair, Crowd or Marks as bytes."""
    return text_of(entry).encode("ascii")


class Page:
    """The lines of any value, in words; those that were found right are behind the place that is come to."""

    def __init__(self, value):
        rows = value.split("\n") if isinstance(value, str) else [""]
        self.lines = [row.split(" ") for row in rows[:-1]]
        # Behind the last line feed stands nothing, or a line that lacks one.
        self.is_ended = rows[-1] == ""
        self.at = 0

    def words(self):
        """The words of the line that is come to; none if there is no further line."""
        return self.lines[self.at] if self.at < len(self.lines) else []

    def starts(self, word):
        """Whether the line that is come to begins with a word."""
        return self.words()[:1] == [word]

    def check(self, right):
        """Refuse the line that is come to unless it is right; else go on behind it."""
        if not right:
            raise InvalidText(self.at + 1)
        self.at += 1

    def close(self):
        """Refuse any further line."""
        if self.at < len(self.lines) or not self.is_ended:
            raise InvalidText(self.at + 1)


def take_stair(page, word):
    """The Stair that the first lines of a page tell, the first one with a word."""
    counts = counts_in(page.words()[1:])
    page.check(page.starts(word) and counts is not None and len(counts) == 1 and 1 <= counts[0] <= Stair.MOST_STEPS)
    steps = counts[0]
    jumps = []
    while page.starts("jump"):
        jump = counts_in(page.words()[1:])
        page.check(is_jump(steps, jump) and len(jumps) < Stair.MOST_JUMPS and (not jumps or jumps[-1] < jump))
        jumps.append(jump)
    return Stair(steps, Ready(jumps))


def read_stair(text):
    """The Stair with just this text."""
    page = Page(text)
    stair = take_stair(page, "stair")
    page.close()
    return stair


def read_crowd(text):
    """The Crowd with just this text."""
    page = Page(text)
    stair = take_stair(page, "crowd")
    ways = {}
    last = ()
    while page.starts("way"):
        counts = counts_in(page.words()[1:])
        way = () if counts is None else counts[1:]
        page.check(is_way(stair, way) and counts[0] > 0 and len(ways) < Crowd.MOST_WAYS and last < way)
        ways[way] = counts[0]
        last = way
    page.close()
    return Crowd(stair, Ready(ways))


def read_marks(text):
    """The Marks with just this text."""
    page = Page(text)
    stair = take_stair(page, "marks")
    places = {thing: at for at, thing in enumerate(stair.things())}
    told = {}
    last = -1
    while page.words():
        thing = thing_in(page.words()[:-2])
        mark = mark_in(page.words()[-2:])
        page.check(thing in places and places[thing] > last and mark is not None and mark != FREE)
        told[thing] = mark
        last = places[thing]
    page.close()
    return right_marks(stair, told)
