"""A checker of papers that goes by the words of points 6 and 10 alone; values are compared with their kinds."""

import functools
import itertools

from surelyhas.patterns import Pattern


@functools.lru_cache(maxsize=None)
def pattern_of(text):
    return Pattern(text)


@functools.lru_cache(maxsize=None)
def behind(text, state, sign):
    """The state of a pattern behind one more letter."""
    pattern = pattern_of(text)
    told = set() if pattern.from_start else {0}
    for position in range(1, pattern.many + 1):
        if sign in pattern.letters(position):
            if 0 in state and position in pattern.first:
                told.add(position)
            if any(position in pattern.follows(before) for before in state if before > 0):
                told.add(position)
    return tuple(sorted(told))


@functools.lru_cache(maxsize=None)
def is_end(text, state):
    pattern = pattern_of(text)
    return any(place in pattern.last for place in state if place > 0) or (0 in state and pattern.empty)


def is_barring(text, state):
    """Whether a pattern without $ is an end here."""
    return not text.endswith("$") and is_end(text, state)


def is_state_of(text, value):
    if type(value) is not tuple or any(type(place) is not int for place in value):
        return False
    return list(value) == sorted(set(value)) and all(0 <= place <= pattern_of(text).many for place in value)


class Rules:
    """The rules for papers of one kind, for one family, found, patterns and tuple of numbers."""

    def __init__(self, family, found, texts, world, kind, which):
        self.signs = family.signs
        self.not_found = [piece for piece in family.pieces if piece not in found]
        self.outside = [text for number, text in enumerate(texts) if number not in world]
        self.piece = which if kind == "piece" else None
        self.goal = texts[which] if kind == "pattern" else None

    def goal_of(self, state):
        """What is told for the goal where its pattern has a state."""
        return None if is_barring(self.goal, state) else state

    def at_beginning(self):
        """The state at the beginning of a line, None if an outside pattern without $ is an end there."""
        if any(is_barring(text, (0,)) for text in self.outside):
            return None
        return ("", tuple((0,) for _ in self.outside), False if self.goal is None else self.goal_of((0,)))

    def behind(self, state, sign):
        """The state behind one more letter, None if none is wanted."""
        window, outside, goal = state
        line = window + sign
        if any(line.endswith(piece) for piece in self.not_found):
            return None
        states = tuple(behind(text, told, sign) for text, told in zip(self.outside, outside))
        if any(is_barring(text, told) for text, told in zip(self.outside, states)):
            return None
        if self.goal is None:
            goal = goal or line.endswith(self.piece)
        elif goal is not None:
            goal = self.goal_of(behind(self.goal, goal, sign))
        return line[-2:], states, goal

    def is_wrong_end(self, state):
        """Whether the line may end and shows the goal."""
        _, outside, goal = state
        if any(text.endswith("$") and is_end(text, told) for text, told in zip(self.outside, outside)):
            return False
        if self.goal is None:
            return goal
        return goal is None or (self.goal.endswith("$") and is_end(self.goal, goal))

    def has_form(self, state):
        if type(state) is not tuple or len(state) != 3:
            return False
        window, outside, goal = state
        if type(window) is not str or len(window) > 2 or not set(window) <= set(self.signs):
            return False
        if type(outside) is not tuple or len(outside) != len(self.outside):
            return False
        if not all(is_state_of(text, told) for text, told in zip(self.outside, outside)):
            return False
        if any(is_barring(text, told) for text, told in zip(self.outside, outside)):
            return False
        if self.goal is None:
            return type(goal) is bool
        if goal is None:
            return not self.goal.endswith("$")
        return is_state_of(self.goal, goal) and not is_barring(self.goal, goal)

    def are_right(self, states):
        if type(states) is not list or not all(self.has_form(state) for state in states):
            return False
        told = set(states)
        first = self.at_beginning()
        wanted = [] if first is None else [first]
        for state in told:
            wanted += [self.behind(state, sign) for sign in self.signs]
        return all(state is None or state in told for state in wanted) and not any(map(self.is_wrong_end, told))

    def all_states(self):
        """Every state that has the form."""
        windows = ["".join(letters) for many in range(3) for letters in itertools.product(self.signs, repeat=many)]
        outside = [states_of(text) for text in self.outside]
        goals = [False, True] if self.goal is None else [None, *states_of(self.goal)]
        every = itertools.product(windows, itertools.product(*outside), goals)
        return [state for state in every if self.has_form(state)]

    def greatest(self):
        """As many states as a right paper can have, in no order, if there is one."""
        told = {state for state in self.all_states() if not self.is_wrong_end(state)}
        while True:
            kept = {state for state in told
                    if all(one is None or one in told for one in [self.behind(state, sign) for sign in self.signs])}
            if kept == told:
                return kept
            told = kept


def states_of(text):
    places = range(pattern_of(text).many + 1)
    return [state for many in range(len(places) + 1) for state in itertools.combinations(places, many)]


def is_right_paper(family, found, texts, world, value):
    """Whether any value is a paper that a tuple of numbers is no world."""
    if type(value) is not tuple or len(value) != 3:
        return False
    kind, which, states = value
    if type(kind) is str and kind == "piece" and type(which) is str and which in found:
        return Rules(family, found, texts, world, kind, which).are_right(states)
    if type(kind) is str and kind == "pattern" and type(which) is int and which in world:
        return Rules(family, found, texts, world, kind, which).are_right(states)
    return False


def goals_of(found, world):
    return [("piece", piece) for piece in found] + [("pattern", number) for number in world]


def replaced(one, at, value):
    """A list or tuple with another item at an index."""
    return one[:at] + type(one)([value]) + one[at + 1:]


def other_places(state):
    """Almost the states of a pattern."""
    if state is None:
        return [(), (0,), False, True]
    told = [None, (), (0,), state + (40,), state[1:], state[:-1], list(state), (0, *state), state[::-1], "",
            tuple(bool(place) if place < 2 else place for place in state), tuple(float(place) for place in state)]
    return told + [tuple(sorted(set(state) ^ {place})) for place in range(4)] + [(-1, *state)]


def other_states(state):
    """Almost a state of a paper."""
    window, outside, goal = state
    told = [None, (), list(state), state[:2], state + (None,), (window,), window, (outside, window, goal)]
    told += [(other, outside, goal) for other in ("", "a", "b", "ab", "ba", "bb", "c", "abb", "A", None, 0, ("a",),
                                                  window[::-1], window[:1], window + "a")]
    told += [(window, list(outside), goal), (window, outside[1:], goal), (window, (*outside, (0,)), goal),
             (window, None, goal), (window, outside[::-1], goal)]
    for at, one in enumerate(outside):
        told += [(window, replaced(outside, at, other), goal) for other in other_places(one)]
    if goal is True or goal is False:
        return told + [(window, outside, other) for other in (True, False, 0, 1, None, (0,), "", "True")]
    return told + [(window, outside, other) for other in [*other_places(goal), True, False, 0]]


def other_papers(paper, chooser):
    """Values that are almost papers, some of them right; a few drawn ones of each kind."""
    kind, which, states = paper
    told = [None, (), [], {}, list(paper), paper[:2], paper + (1,), (kind, states, which), states, "piece", 0, True]
    for other in ("piece", "pattern", "Piece", "", None, 0, b"piece", ("piece",), ["pattern"]):
        told.append((other, which, states))
    for other in (0, 1, 2, 3, -1, True, False, None, "", "a", "b", "ab", "ba", "aa", ["a"], (0,), 0.0, 1.0, "0"):
        told += [(kind, other, states), ("piece", other, states), ("pattern", other, states)]
    for other in (tuple(states), {}, None, "", 0, True, dict.fromkeys(states), [None], [()], [[]], [states], states * 2,
                  states[::-1], chooser.sample(states, len(states)), [], states[:1], states[1:], states[:-1]):
        told.append((kind, which, other))
    for at in chooser.sample(range(len(states)), min(3, len(states))):
        told.append((kind, which, states[:at] + states[at + 1:]))
        told.append((kind, which, states[at:] + states[:at]))
        for other in other_states(states[at]):
            told.append((kind, which, replaced(states, at, other)))
            told.append((kind, which, [*states, other]))
    return told
