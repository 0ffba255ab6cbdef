"""Which lines over some signs have a pattern, as a table of few numbered states.

The states of (6) that no further letters tell apart have one number. A graph of several patterns would else grow with
the product of states that make no difference.
"""

FIRST = (0,)


def line_table(pattern, signs):
    """Return (rows, ends): for each numbered state those behind one more of the signs, and whether a line has the
    pattern that ends there. The beginning has the number 0.
    """
    rows, ends = full_table(pattern, signs)
    classes = told_apart(rows, ends)
    kept = [classes.index(number) for number in range(len(set(classes)))]
    return [[classes[behind] for behind in rows[state]] for state in kept], [ends[state] for state in kept]


def full_table(pattern, signs):
    """Return rows and ends as line_table does, with a number for each state of (6)."""
    states = [FIRST]
    numbers = {FIRST: 0}
    rows = []
    ends = []
    while len(rows) < len(states):
        state = states[len(rows)]
        is_end = pattern.is_end(state)
        row = []
        for sign in signs:
            # Without a $ the line has the pattern from here on, whatever follows.
            behind = state if is_end and not pattern.to_end else pattern.step(state, sign)
            if behind not in numbers:
                numbers[behind] = len(states)
                states.append(behind)
            row.append(numbers[behind])
        rows.append(row)
        ends.append(is_end)
    return rows, ends


def told_apart(rows, ends):
    """Return a number for each state, the same one exactly for those from which the same lines lead to an end."""
    classes = numbered(ends)
    many = 0
    while many < len(set(classes)):
        many = len(set(classes))
        classes = numbered([(classes[state], *[classes[behind] for behind in row]) for state, row in enumerate(rows)])
    return classes


def numbered(values):
    """Return a number for each value, the same one for equal values, in the order in which they first stand."""
    numbers = {}
    for value in values:
        numbers.setdefault(value, len(numbers))
    return [numbers[value] for value in values]
