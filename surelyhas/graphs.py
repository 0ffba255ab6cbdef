"""All lines over the signs of a family as ways through a graph, which tells what they have of its pieces and of some
patterns. Sets of pieces and of patterns are told by bits.
"""

from surelyhas.bits import are_within, bits_of, numbers_of, united
from surelyhas.tables import line_table


class LineGraph:
    """Nodes are numbers; a line is a way from node 0. Nodes are made when they are first asked for, for often most
    lines are not allowed.
    """

    def __init__(self, family, patterns):
        self._signs = family.signs
        self._pieces = family.pieces
        # Of the beginning of a line only that counts with which a piece can go on.
        self._heads = [piece[:many] for piece in self._pieces for many in range(len(piece))]
        self._tables = [line_table(pattern, self._signs) for pattern in patterns]
        self._keys = []
        self._numbers = {}
        self._edges = {}
        self._patterns_had = []
        self._node(("", tuple([0 for _ in self._tables])))

    def patterns_had(self, node):
        """Return the bits of the patterns that a line has if it ends here."""
        return self._patterns_had[node]

    def edges(self, node):
        """Return a list of (node behind, sign, pieces) for each of the signs, with the pieces that end with it."""
        if node not in self._edges:
            self._edges[node] = [self._edge(node, at) for at in range(len(self._signs))]
        return self._edges[node]

    def _edge(self, node, at):
        head, states = self._keys[node]
        text = head + self._signs[at]
        pieces = bits_of([number for number, piece in enumerate(self._pieces) if text.endswith(piece)])
        behind = tuple([rows[state][at] for (rows, _), state in zip(self._tables, states)])
        return self._node((self._head(text), behind)), self._signs[at], pieces

    def _head(self, text):
        """Return the longest end of a text with which a piece can go on."""
        for start in range(len(text)):
            if text[start:] in self._heads:
                return text[start:]
        return ""

    def _node(self, key):
        """Return the number of a node, which is told by a head and a state of each pattern."""
        if key not in self._numbers:
            self._numbers[key] = len(self._keys)
            self._keys.append(key)
            _, states = key
            ends = [number for number, state in enumerate(states) if self._tables[number][1][state]]
            self._patterns_had.append(bits_of(ends))
        return self._numbers[key]


class AllowedLines:
    """The lines that are allowed by found, as ways through a graph of lines; found is told by bits."""

    def __init__(self, graph, found):
        self._graph = graph
        self._found = found
        # For each node on these ways: the last edge (node before, sign) of a shortest way to it, None for the first.
        self._ways = {0: None}
        # For each node on these ways: all edges (node before, sign, pieces) to it.
        self._sources = {0: []}
        self._go_through()

    def worlds(self, many):
        """Return the ascending list of the worlds, for a number of patterns."""
        kinds = self._kinds()
        told = []
        for inside in range(1 << many):
            within = [kind for kind in kinds if are_within(kind, inside)]
            pieces = united([kinds[kind] for kind in within])
            if pieces == self._found and united(within) == inside:
                told.append(numbers_of(inside))
        return sorted(told)

    def page(self, world):
        """Return a page for a world, None if it is none."""
        inside = bits_of(world)
        ends = self._ends_within(inside)
        onward = self._onward(ends)
        lines = []
        pieces = 0
        for node in onward:
            for before, sign, ended in self._sources[node]:
                if not are_within(ended, pieces):
                    pieces |= ended
                    lines.append(self._line_to(before) + sign + line_from(onward, node))
        patterns = 0
        for node in ends:
            had = self._graph.patterns_had(node)
            if not are_within(had, patterns):
                patterns |= had
                lines.append(self._line_to(node))
        if pieces != self._found or patterns != inside:
            return None
        return tuple(sorted(set(lines)))

    def _go_through(self):
        queue = [0]
        at = 0
        while at < len(queue):
            node = queue[at]
            at += 1
            for behind, sign, pieces in self._graph.edges(node):
                if are_within(pieces, self._found):
                    if behind not in self._ways:
                        self._ways[behind] = (node, sign)
                        self._sources[behind] = []
                        queue.append(behind)
                    self._sources[behind].append((node, sign, pieces))

    def _kinds(self):
        """Return a dict from the patterns that some of these lines have alone to the pieces of all these lines."""
        ends = {}
        for node in self._ways:
            ends.setdefault(self._graph.patterns_had(node), []).append(node)
        return {had: self._pieces_of(self._onward(nodes)) for had, nodes in ends.items()}

    def _ends_within(self, inside):
        """Return the nodes at which lines end that have no pattern but some."""
        return [node for node in self._ways if are_within(self._graph.patterns_had(node), inside)]

    def _onward(self, ends):
        """Return a dict from each node from which lines go on to some ends to the first edge (node behind, sign) of a
        shortest way there, None for an end itself.
        """
        onward = {node: None for node in ends}
        queue = list(ends)
        at = 0
        while at < len(queue):
            node = queue[at]
            at += 1
            for before, sign, _ in self._sources[node]:
                if before not in onward:
                    onward[before] = (node, sign)
                    queue.append(before)
        return onward

    def _pieces_of(self, onward):
        """Return the pieces of all lines that go on to the ends for which onward was made."""
        return united([edge[2] for node in onward for edge in self._sources[node]])

    def _line_to(self, node):
        """Return a shortest line that leads to a node."""
        signs = []
        while self._ways[node] is not None:
            node, sign = self._ways[node]
            signs.append(sign)
        return "".join(signs[::-1])


def line_from(onward, node):
    """Return a shortest way on from a node, as the letters of a line."""
    signs = []
    while onward[node] is not None:
        node, sign = onward[node]
        signs.append(sign)
    return "".join(signs)
