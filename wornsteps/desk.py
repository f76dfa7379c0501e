"""Desks: marks of a stair that are changed, what can be taken back, commands, and trials."""

from wornsteps.blame import eased
from wornsteps.checks import check_same_stair, check_thing, is_bound, is_mark
from wornsteps.errors import (CommandFailed, InvalidBounds, InvalidCommand, InvalidMark, LimitError, MissingError,
                              NothingToUndo, StairError, StateError)
from wornsteps.fits import does_fit
from wornsteps.marks import right_marks
from wornsteps.measuring import measured
from wornsteps.runs import along_range
from wornsteps.scores import range_of
from wornsteps.words import count_in, counts_in, mark_in, thing_in, told_number

DONE = "done"


def told_range(numbers):
    """The answer that tells a tuple (least, greatest)."""
    return f"{told_number(numbers[0])} {told_number(numbers[1])}"


def answer_fits(desk, words):
    """Answer `fits`; None unless the words are this command."""
    if len(words) != 1:
        return None
    return "yes" if does_fit(desk.marks) else "no"


def answer_range(desk, words):
    """Answer `range THING`; None unless the words are this command."""
    thing = thing_in(words[1:])
    return told_range(range_of(desk.marks, thing)) if thing in desk.marks.stair else None


def answer_along(desk, words):
    """Answer `along PLACE PLACE ..`; None unless the words are this command."""
    run = counts_in(words[1:])
    return told_range(along_range(desk.marks, run)) if desk.marks.stair.is_run(run) else None


def set_mark(desk, words):
    """Do `feet LOW HIGH` and the like; None unless the words are such a command."""
    thing = thing_in(words[:-2])
    mark = mark_in(words[-2:])
    if thing not in desk.marks.stair or mark is None:
        return None
    desk[thing] = mark
    return DONE


def do_measure(desk, words):
    """Do `measure THING WEAR`; None unless the words are this command."""
    thing = thing_in(words[1:-1])
    wear = count_in(words[-1])
    if thing not in desk.marks.stair or wear is None:
        return None
    desk.measure(thing, wear)
    return DONE


def do_ease(desk, words):
    """Do `ease SIDE THING`; None unless the words are this command."""
    bound = (words[1], thing_in(words[2:])) if len(words) > 1 else None
    if not is_bound(desk.marks.stair, bound):
        return None
    desk.ease([bound])
    return DONE


def do_undo(desk, words):
    """Do `undo`; None unless the words are this command."""
    if len(words) != 1:
        return None
    desk.undo()
    return DONE


COMMANDS = {
    "fits": answer_fits,
    "range": answer_range,
    "along": answer_along,
    "feet": set_mark,
    "step": set_mark,
    "stride": set_mark,
    "measure": do_measure,
    "ease": do_ease,
    "undo": do_undo,
}


class Desk:
    """Marks as they stand, which are changed, and those that stood ahead of each change."""

    def __init__(self, marks):
        # A change puts a new tuple here, so what a trial keeps is not changed.
        self.book = (marks, ())

    @property
    def marks(self):
        """The marks as they stand."""
        return self.book[0]

    @marks.setter
    def marks(self, marks):
        """Put other marks of the same stair in the place of those that stand."""
        self.set_marks(marks)

    def set_marks(self, marks):
        """Put other marks of the same stair in the place of those that stand."""
        check_same_stair(self.book[0].stair, marks.stair)
        self.put(marks)

    def put(self, marks):
        """Put marks in the place of those that stand, as one change."""
        self.book = (marks, self.book[1] + (self.book[0],))

    def ease(self, bounds):
        """Give all the bounds up."""
        self.put(eased(self.book[0], bounds))

    def measure(self, thing, wear):
        """Let the thing be worn just so often."""
        self.put(measured(self.book[0], thing, wear))

    def undo(self):
        """Take the last change back."""
        done = self.book[1]
        if len(done) == 0:
            raise NothingToUndo()
        self.book = (done[-1], done[:-1])

    def do(self, command):
        """Do a command, and tell the answer to it."""
        words = command.split(" ") if isinstance(command, str) else [""]
        if words[0] not in COMMANDS:
            raise InvalidCommand(command)
        action = COMMANDS[words[0]]
        answer = action(self, words)
        if answer is None:
            raise InvalidCommand(command)
        return answer

    def do_all(self, *commands):
        """Do all commands, or none if one fails, and tell the list of the answers."""
        book = self.book
        answers = []
        for at, command in enumerate(commands):
            try:
                answers.append(self.do(command))
            except (StairError, MissingError, StateError, LimitError) as error:
                self.book = book
                raise CommandFailed(at) from error
        return answers

    def __len__(self):
        return len(self.book[1])

    def __contains__(self, x):
        return x in self.book[0]

    def __iter__(self):
        raise TypeError("a desk is not iterated over: take what its marks tell")

    def __getitem__(self, at):
        return self.book[0][at]

    def __setitem__(self, at, worth):
        check_thing(self.book[0].stair, at)
        if not is_mark(worth):
            raise InvalidMark(worth)
        self.put(self.book[0].with_mark(at, worth[0], worth[1]))

    def __iadd__(self, other):
        marks = self.book[0]
        check_same_stair(marks.stair, other.stair)
        worn = other.wears()
        told = {}
        for thing, (low, high) in marks.told().items():
            told[thing] = (low + worn[thing], None if high is None else high + worn[thing])
        self.put(right_marks(marks.stair, told))
        return self

    def __isub__(self, other):
        if not is_bound(self.book[0].stair, other):
            raise InvalidBounds(None)
        self.put(eased(self.book[0], [other]))
        return self


class Held:
    """What a desk had when a trial began, and what was held when a trial around it did."""

    def __init__(self, book, outer):
        self.book = book
        self.outer = outer


class Trial:
    """A block behind which a desk is as it was ahead of it."""

    def __init__(self, desk):
        self.desk = desk
        self.held = None

    def __enter__(self):
        self.held = Held(self.desk.book, self.held)
        return self.desk

    def __exit__(self, kind, value, trace):
        self.desk.book = self.held.book
        self.held = self.held.outer


def tried(desk, action):
    """What an action returns for the desk, which then is as it was."""
    with Trial(desk) as held:
        return action(held)
