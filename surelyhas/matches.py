"""Which parts of a line are words of a pattern (16)."""

from surelyhas.errors import BadArgument, BadDepth, BadLine
from surelyhas.kinds import is_whole
from surelyhas.patterns import Pattern
from surelyhas.words import is_line


def matches(pattern, line):
    """Go through all matches, pairs (start, end), ascending."""
    check_pattern_and_line(pattern, line)
    ways = Ways(pattern, line)
    for start in ways.starts():
        for end in ways.ends(start):
            yield start, end


def first_match(pattern, line, start=0):
    """Return the first match that begins at the place start or behind, None if there is none."""
    check_pattern_and_line(pattern, line)
    if not is_whole(start) or start < 0:
        raise BadDepth(start)
    ways = Ways(pattern, line)
    starts = [place for place in ways.starts() if place >= start]
    if len(starts) == 0:
        return None
    return starts[0], ways.ends(starts[0])[-1]


class Ways:
    """The ways of the words of a pattern through a line.

    A way is at the position that describes the letter before, at its beginning at 0. Only such ways are followed as can
    still come to an end, so that no part of a long line is gone through in vain.
    """

    def __init__(self, pattern, line):
        positions = range(1, pattern.many + 1)
        self._line = line
        self._from_start = pattern.from_start
        self._to_end = pattern.to_end
        self._letters = ["", *[pattern.letters(position) for position in positions]]
        self._follows = [pattern.first, *[pattern.follows(position) for position in positions]]
        self._ends = [0] + pattern.last if pattern.empty else pattern.last
        self._steps = {}
        # For each place of the line those positions, and 0, from which a way can come to an end.
        self._live = self._all_live()

    def starts(self):
        """Return the ascending list of the places at which matches begin."""
        if self._from_start:
            return [0] if 0 in self._live[0] else []
        return [place for place, live in enumerate(self._live) if 0 in live]

    def ends(self, start):
        """Return the ascending list of the places at which those matches end that begin at a place."""
        told = []
        state = (0,)
        place = start
        while len(state) > 0:
            if self._is_ended(state, place):
                told.append(place)
            state = self._behind(state, place)
            place += 1
        return told

    def _all_live(self):
        known = {}
        live = [tuple(self._ends)]
        for sign in self._line[::-1]:
            key = (sign, live[-1])
            if key not in known:
                known[key] = self._live_before(sign, live[-1])
            live.append(known[key])
        return live[::-1]

    def _live_before(self, sign, live):
        """Return from where a way can come to an end ahead of a letter, where live is the same behind it."""
        ends = [] if self._to_end else self._ends
        reached = [position for position in live if sign in self._letters[position]]
        return tuple([position for position, follows in enumerate(self._follows)
                      if position in ends or any([follower in reached for follower in follows])])

    def _is_ended(self, state, place):
        if self._to_end and place < len(self._line):
            return False
        return any([position in self._ends for position in state])

    def _behind(self, state, place):
        """Return the state behind the letter at a place, an ascending tuple, empty where no way goes on."""
        if place == len(self._line):
            return ()
        sign = self._line[place]
        live = self._live[place + 1]
        key = (state, sign, live)
        if key not in self._steps:
            follow = [follower for position in state for follower in self._follows[position]]
            self._steps[key] = tuple([position for position in live
                                      if position in follow and sign in self._letters[position]])
        return self._steps[key]


def check_pattern_and_line(pattern, line):
    """Raise an error if values are no pattern, or no line."""
    if not isinstance(pattern, Pattern):
        raise BadArgument(pattern)
    if not is_line(line):
        raise BadLine(line)
