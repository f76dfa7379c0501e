"""Habits, which read the lengths of the jumps of a way, and studies of ways that go by habits."""

from wornsteps.checks import MOST_LENGTH, check_lengths, first_wrong, is_length, is_list, is_number
from wornsteps.errors import InvalidEnds, InvalidHabits, InvalidLengths, InvalidMoves, InvalidWay, NoSuch, TooMany
from wornsteps.ways import things_on

MOST_STATES = 3
MOST_HABITS = 3
MOST_LETTERS = 8
LETTERS = "abcdefghijklmnopqrstuvwxyz"


def is_state(value):
    """Whether any value is a state of a habit."""
    return is_number(value) and 0 <= value < MOST_STATES


def are_moves(value):
    """Whether any value is a dict from tuples (state, length) to states."""
    if not isinstance(value, dict):
        return False
    for key, state in value.items():
        if not isinstance(key, tuple) or len(key) != 2:
            return False
        if not is_state(key[0]) or not is_length(key[1]) or not is_state(state):
            return False
    return True


def check_ends(ends):
    """Refuse any value that is no list of at least one state, each once."""
    if not is_list(ends) or len(ends) == 0:
        raise InvalidEnds(None)
    wrong = first_wrong(ends, [is_state(end) for end in ends])
    if wrong is not None:
        raise InvalidEnds(wrong)


def check_row(lengths):
    """Refuse any value that is no list of lengths, which may stand there more than once."""
    if not is_list(lengths):
        raise InvalidLengths(None)
    for at, length in enumerate(lengths):
        if not is_length(length):
            raise InvalidLengths(at)


def are_rising_places(value):
    """Whether any value is a tuple of two or more places of some stair, rising from 0."""
    if not isinstance(value, tuple) or len(value) < 2:
        return False
    for place in value:
        if not is_number(place):
            return False
    if value[0] != 0 or value[-1] > MOST_LENGTH:
        return False
    return all([i < j for i, j in zip(value, value[1:])])


def state_behind(moves, lengths):
    """The state behind some lengths; None if one of them is barred."""
    state = 0
    for length in lengths:
        state = moves.get((state, length))
        if state is None:
            return None
    return state


class Habit:
    """A habit: moves from state to state, and the states that a way may end in; it never changes."""

    def __init__(self, moves, ends):
        if not are_moves(moves):
            raise InvalidMoves(moves)
        check_ends(ends)
        self._moves = {key: moves[key] for key in sorted(moves)}
        self._ends = sorted(ends)

    def moves(self):
        """The dict from tuples (state, length), sorted, to states."""
        return {key: self._moves[key] for key in self._moves}

    def ends(self):
        """The sorted list of the ends."""
        return list(self._ends)

    def reads(self, lengths):
        """The state behind a list of lengths; None if one of them is barred."""
        check_row(lengths)
        return state_behind(self._moves, lengths)

    def __call__(self, way):
        if not are_rising_places(way):
            raise InvalidWay(way)
        return state_behind(self._moves, [j - i for i, j in zip(way, way[1:])]) in self._ends

    def __and__(self, other):
        pairs = [(0, 0)]
        numbers = {(0, 0): 0}
        moves = {}
        state = 0
        while state < len(pairs):
            here, there = pairs[state]
            for length in range(1, MOST_LENGTH + 1):
                pair = (self._moves.get((here, length)), other._moves.get((there, length)))
                if pair[0] is not None and pair[1] is not None:
                    if pair not in numbers:
                        numbers[pair] = len(pairs)
                        pairs.append(pair)
                    moves[(state, length)] = numbers[pair]
            state = state + 1
        ends = [numbers[pair] for pair in pairs if pair[0] in self._ends and pair[1] in other._ends]
        if len(ends) == 0:
            raise InvalidEnds(None)
        if len(pairs) > MOST_STATES:
            raise TooMany("states", MOST_STATES)
        return Habit(moves, ends)

    def __eq__(self, other):
        if not isinstance(other, Habit) or self.__class__.__name__ != other.__class__.__name__:
            return False
        return self._moves == other._moves and self._ends == other._ends

    def __repr__(self):
        return f"Habit({self._moves}, {self._ends})"


class Without(Habit):
    """The habit of making no jump of some lengths."""

    def __init__(self, *lengths):
        check_lengths(lengths)
        super().__init__({(0, length): 0 for length in range(1, MOST_LENGTH + 1) if length not in lengths}, [0])
        self._barred = sorted(lengths)

    @property
    def barred(self):
        """The sorted list of the lengths of which no jump is made."""
        return list(self._barred)

    def __repr__(self):
        return f"Without({', '.join([str(length) for length in self._barred])})"


class JustOnce(Habit):
    """The habit of making just one jump of a length."""

    def __init__(self, length):
        if not is_length(length):
            raise InvalidLengths(0)
        moves = {}
        for other in range(1, MOST_LENGTH + 1):
            if other != length:
                moves[(0, other)] = 0
                moves[(1, other)] = 1
        moves[(0, length)] = 1
        super().__init__(moves, [1])
        self._length = length

    @property
    def length(self):
        """The length of which just one jump is made."""
        return self._length

    def __repr__(self):
        return f"JustOnce({self._length})"


def is_name(value):
    """Whether any value is a NAME."""
    if not isinstance(value, str) or not 1 <= len(value) <= MOST_LETTERS:
        return False
    return all([letter in LETTERS for letter in value])


def are_habits(value):
    """Whether any value is a dict from one to three NAMES other than "feet" to Habits."""
    if not isinstance(value, dict) or not 1 <= len(value) <= MOST_HABITS:
        return False
    for name, habit in value.items():
        if not is_name(name) or name == "feet" or not isinstance(habit, Habit):
            return False
    return True


def many_onward(stair, moves, ends):
    """The dict from tuples (place, state) to how many ways on from there go by a habit, where some do."""
    many = {(stair.head, state): 1 for state in ends}
    for i, j in stair.jumps()[::-1]:
        for state in range(MOST_STATES):
            following = (j, moves.get((state, j - i)))
            if following in many:
                many[(i, state)] = many.get((i, state), 0) + many[following]
    return many


def ways_by(stair, moves, onward):
    """The sorted list of the ways that go by a habit; onward is what many_onward tells."""
    waiting = [[] for _ in range(stair.head + 1)]
    if (0, 0) in onward:
        waiting[0].append(((0,), 0))
    # The jumps are sorted: all ways that come to a place are there when the first jump from it is reached.
    for i, j in stair.jumps():
        rows = [(way + (j,), moves.get((state, j - i))) for way, state in waiting[i]]
        waiting[j].extend([(way, state) for way, state in rows if (j, state) in onward])
    return sorted([way for way, _ in waiting[-1]])


def things_of(pair):
    """The list of the things that a pair passes, in order."""
    return things_on(pair[1]) + [pair[0]]


class Study:
    """A stair and named habits, with the pairs of a habit's name and a way that goes by it; it never changes."""

    MOST_PAIRS = 60
    MOST_MARKS = 8

    def __init__(self, stair, habits):
        if not are_habits(habits):
            raise InvalidHabits(habits)
        self._stair = stair
        self._habits = {name: habits[name] for name in sorted(habits)}
        onward = {name: many_onward(stair, habits[name].moves(), habits[name].ends()) for name in self._habits}
        if sum([onward[name].get((0, 0), 0) for name in onward]) > Study.MOST_PAIRS:
            raise TooMany("pairs", Study.MOST_PAIRS)
        pairs = [(name, way) for name in self._habits for way in ways_by(stair, habits[name].moves(), onward[name])]
        self._pairs = {pair: at for at, pair in enumerate(pairs)}
        passing = {thing: [] for thing in self.things()}
        for at, pair in enumerate(pairs):
            for thing in things_of(pair):
                passing[thing].append(at)
        self._passing = passing

    @property
    def stair(self):
        """The stair that the ways go up."""
        return self._stair

    def habits(self):
        """The dict from the names, sorted, to the habits."""
        return {name: self._habits[name] for name in self._habits}

    def pairs(self):
        """The sorted list of the pairs."""
        return list(self._pairs)

    def things(self):
        """The list of the things: those of the stair, and the names."""
        return self._stair.things() + list(self._habits)

    def has_things(self, table):
        """Whether each key of a dict is one of the things."""
        return self._stair.has_things(
            {thing: True for thing in table if not isinstance(thing, str) or thing not in self._habits})

    def passed(self, pair):
        """The list of the things that one of the pairs passes, in order."""
        if pair not in self:
            raise NoSuch(pair)
        return things_of(pair)

    def passing(self, thing):
        """The list of the positions, among the sorted pairs, of those that pass the thing."""
        return list(self._passing[thing])

    def __len__(self):
        return len(self._pairs)

    def __contains__(self, x):
        if not isinstance(x, tuple) or len(x) != 2:
            return False
        return isinstance(x[0], str) and self._stair.is_run(x[1]) and x in self._pairs
