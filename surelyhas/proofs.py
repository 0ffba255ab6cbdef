"""The states of papers that a tuple is no world (10), made and checked by the same rules."""

from surelyhas.kinds import is_ascending, is_piece, is_whole

PIECE = "piece"
PATTERN = "pattern"
WINDOW = 2


class Follower:
    """Follows one pattern along lines by its states; None stands for a line that has it, whatever follows."""

    def __init__(self, pattern):
        self._pattern = pattern
        self._known = {}

    def start(self):
        """Return the state at the beginning of a line."""
        return self._kept((0,))

    def behind(self, state, sign):
        """Return the state behind one more letter."""
        if state is None:
            return None
        key = (state, sign)
        if key not in self._known:
            self._known[key] = self._kept(self._pattern.step(state, sign))
        return self._known[key]

    def has(self, state):
        """Return whether a line has the pattern that ends in a state."""
        return state is None or self._pattern.is_end(state)

    def is_undecided(self, value):
        """Return whether any value is a state, and not one behind which each line has the pattern."""
        return is_ascending(value, self._pattern.many) and self._kept(value) is not None

    def can_be_settled(self):
        """Return whether None can be its state."""
        return not self._pattern.to_end

    def _kept(self, state):
        return None if self.can_be_settled() and self._pattern.is_end(state) else state


class PieceGoal:
    """The goal that a piece stands in a line; told by whether it stood in the beginning."""

    def __init__(self, piece):
        self._piece = piece

    def start(self):
        """Return what is told at the beginning of a line."""
        return False

    def behind(self, goal, text):
        """Return what is told behind one more letter, the last one of text."""
        return goal or text.endswith(self._piece)

    def is_shown(self, goal):
        """Return whether a line shows the goal that ends with this told."""
        return goal

    def can_be(self, value):
        """Return whether any value can be told."""
        return value is True or value is False


class PatternGoal:
    """The goal that a line has a pattern; told by its state."""

    def __init__(self, follower):
        self._follower = follower

    def start(self):
        """Return what is told at the beginning of a line."""
        return self._follower.start()

    def behind(self, goal, text):
        """Return what is told behind one more letter, the last one of text."""
        return self._follower.behind(goal, text[-1])

    def is_shown(self, goal):
        """Return whether a line shows the goal that ends with this told."""
        return self._follower.has(goal)

    def can_be(self, value):
        """Return whether any value can be told."""
        if value is None:
            return self._follower.can_be_settled()
        return self._follower.is_undecided(value)


class Proofs:
    """Papers for one family, found and patterns, and any tuple of numbers of these."""

    def __init__(self, family, found, patterns):
        self._signs = family.signs
        self._found = [piece for piece in family.pieces if piece in found]
        self._barred = [piece for piece in family.pieces if piece not in found]
        self._followers = [Follower(pattern) for pattern in patterns]

    def paper(self, world):
        """Return a paper that a tuple of numbers is no world, None if it is one."""
        for kind, which in self._goals(world):
            states = self._states(world, kind, which).all_from_start()
            if states is not None:
                return kind, which, states
        return None

    def is_paper(self, world, value):
        """Return whether any value is a paper that a tuple of numbers is no world."""
        if not isinstance(value, tuple) or len(value) != 3:
            return False
        kind, which, states = value
        if not self._is_goal(world, kind, which):
            return False
        return self._states(world, kind, which).are_right(states)

    def _goals(self, world):
        return [(PIECE, piece) for piece in self._found] + [(PATTERN, number) for number in world]

    def _is_goal(self, world, kind, which):
        if not isinstance(kind, str):
            return False
        if kind == PIECE:
            return is_piece(which, self._found)
        return kind == PATTERN and is_whole(which) and which in world

    def _states(self, world, kind, which):
        followers = list(enumerate(self._followers))
        outside = [follower for number, follower in followers if number not in world]
        goal = PieceGoal(which) if kind == PIECE else PatternGoal(self._followers[which])
        return States(self._signs, self._barred, outside, goal)


class States:
    """The states (window, outside, goal) of the papers for one goal."""

    def __init__(self, signs, barred, outside, goal):
        self._signs = signs
        self._barred = barred
        self._others = outside
        self._goal = goal

    def all_from_start(self):
        """Return the list of all states to which lines lead, None if a line may end in one and shows the goal."""
        told = self._first()
        known = {state: True for state in told}
        at = 0
        while at < len(told):
            if self._is_reached(told[at]):
                return None
            for state in self._all_behind(told[at]):
                if state not in known:
                    known[state] = True
                    told.append(state)
            at += 1
        return told

    def are_right(self, value):
        """Return whether any value is the states of a right paper."""
        if not isinstance(value, list) or not all([self._is_state(state) for state in value]):
            return False
        known = {state: True for state in value}
        wanted = [self._first(), *[self._all_behind(state) for state in known]]
        if not all([state in known for states in wanted for state in states]):
            return False
        return not any([self._is_reached(state) for state in known])

    def _first(self):
        """Return a list of the state at the beginning of a line, empty if no line can be."""
        outside = tuple([follower.start() for follower in self._others])
        return [] if None in outside else [("", outside, self._goal.start())]

    def _all_behind(self, state):
        """Return the list of the states behind one more of the signs, as far as lines may go on so."""
        behind = [self._behind(state, sign) for sign in self._signs]
        return [one for one in behind if one is not None]

    def _behind(self, state, sign):
        """Return the state behind one more letter, None if no line may go on so."""
        window, outside, goal = state
        text = window + sign
        if any([text.endswith(piece) for piece in self._barred]):
            return None
        behind = tuple([follower.behind(before, sign) for follower, before in zip(self._others, outside)])
        if None in behind:
            return None
        return text[-WINDOW:], behind, self._goal.behind(goal, text)

    def _is_reached(self, state):
        """Return whether a line may end in a state and shows the goal."""
        _, outside, goal = state
        ended = [follower.has(before) for follower, before in zip(self._others, outside)]
        return self._goal.is_shown(goal) and not any(ended)

    def _is_state(self, value):
        """Return whether any value has the form of a state."""
        if not isinstance(value, tuple) or len(value) != 3:
            return False
        window, outside, goal = value
        return self._is_window(window) and self._is_outside(outside) and self._goal.can_be(goal)

    def _is_window(self, value):
        return isinstance(value, str) and len(value) <= WINDOW and all([sign in self._signs for sign in value])

    def _is_outside(self, value):
        if not isinstance(value, tuple) or len(value) != len(self._others):
            return False
        return all([follower.is_undecided(state) for follower, state in zip(self._others, value)])
