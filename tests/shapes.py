"""A matcher of the tests' own, which goes by the words of point 5 and knows nothing of positions in states.

A shape is what a pattern means, made from its parts and not read from a text, so that these tests do not hang
on a second reader: ("place", text, letters), ("row", shapes), ("either", shapes), ("sign", sign, shape) and
("brackets", shape).
"""

import functools
import itertools
import random
import string

ALL = string.ascii_lowercase


def place(text):
    """A letter, a point, or a class."""
    letters = ALL if text == "." else text.strip("[]")
    return ("place", text, letters)


def row(*shapes):
    return ("row", shapes)


def either(*shapes):
    return ("either", shapes)


def brackets(shape):
    return ("brackets", shape)


def signed(shape, signs):
    """The shape with each of some signs behind it, one behind the other."""
    for sign in signs:
        shape = ("sign", sign, shape)
    return shape


def text_of(shape):
    kind = shape[0]
    if kind == "place":
        return shape[1]
    if kind == "row":
        return "".join(text_of(part) for part in shape[1])
    if kind == "either":
        return "|".join(text_of(part) for part in shape[1])
    if kind == "sign":
        return text_of(shape[2]) + shape[1]
    return "(" + text_of(shape[1]) + ")"


@functools.lru_cache(maxsize=None)
def is_word(shape, text):
    """Whether a text is one of the words that a shape describes."""
    kind = shape[0]
    if kind == "place":
        return len(text) == 1 and text in shape[2]
    if kind == "row":
        if not shape[1]:
            return text == ""
        rest = ("row", shape[1][1:])
        return any(is_word(shape[1][0], text[:k]) and is_word(rest, text[k:]) for k in range(len(text) + 1))
    if kind == "either":
        return any(is_word(part, text) for part in shape[1])
    if kind == "brackets":
        return is_word(shape[1], text)
    if shape[1] == "?":
        return text == "" or is_word(shape[2], text)
    if shape[1] == "*" and text == "":
        return True
    # One or more words: parts that are empty add nothing to a text that is not.
    return is_word(shape[2], text) or any(
        is_word(shape[2], text[:k]) and is_word(("sign", "+", shape[2]), text[k:]) for k in range(1, len(text)))


def has(shape, from_start, to_end, line):
    """Whether a line has the pattern of a shape, a ^ and a $, or not."""
    for start in range(len(line) + 1):
        for end in range(start, len(line) + 1):
            if (start == 0 or not from_start) and (end == len(line) or not to_end):
                if is_word(shape, line[start:end]):
                    return True
    return False


def places_of(shape):
    """The letters of all positions, from the left."""
    if shape[0] == "place":
        return [shape[2]]
    if shape[0] in ("row", "either"):
        return [letters for part in shape[1] for letters in places_of(part)]
    return places_of(shape[-1])


def marked_words(shape, most, before=0):
    """All words of at most so many letters, each letter told by the number of the position it stands for."""
    kind = shape[0]
    if kind == "place":
        return {(before + 1,)}
    if kind == "brackets":
        return marked_words(shape[1], most, before)
    if kind == "sign":
        told = set(marked_words(shape[2], most, before))
        if shape[1] != "?":
            told = one_or_more(told, most)
        return told if shape[1] == "+" else told | {()}
    told = {()} if kind == "row" else set()
    for part in shape[1]:
        more = marked_words(part, most, before)
        told = joined(told, more, most) if kind == "row" else told | more
        before += len(places_of(part))
    return told


def joined(one, other, most):
    return {left + right for left in one for right in other if len(left + right) <= most}


def one_or_more(words, most):
    told = set(words)
    while True:
        more = told | joined(told, words, most)
        if more == told:
            return told
        told = more


def lines_over(signs, most):
    """All lines over some signs with at most so many letters."""
    return ["".join(line) for many in range(most + 1) for line in itertools.product(signs, repeat=many)]


def small_shapes():
    """Each construct of point 5 alone, and each within each other one."""
    places = [place("a"), place("."), place("[ba]")]
    alone = [signed(part, signs) for part in places for signs in ("", "*", "+", "?", "+?", "?+", "**", "?*+")]
    rows = [row(), *[row(part) for part in alone], *[row(one, two) for one in alone[:8] for two in alone[::3]]]
    wholes = [*rows, either(row(), row()), either(row(), row(place("b"))), either(row(place("b")), row()),
              either(row(place("a")), row(), row(place("b"), place("a")))]
    inner = [*rows[:28:3], *wholes[len(rows):]]
    for part in list(inner):
        for signs in ("", "*", "+", "?", "+*"):
            item = signed(brackets(part), signs)
            wholes += [row(item), row(item, place("c")), row(place("c"), item), either(row(item), row(place("c")))]
    return wholes


def mixed_shapes(many, most_places):
    """Some shapes that are nested deeper, the same at each run."""
    chooser = random.Random(5)
    told = []
    while len(told) < many:
        shape = mixed(chooser, 3)
        if len(text_of(shape)) <= 38 and len(places_of(shape)) <= most_places:
            told.append(shape)
    return told


def mixed(chooser, depth):
    branches = []
    for _ in range(chooser.choice((1, 1, 2, 3))):
        branches.append(row(*[mixed_item(chooser, depth) for _ in range(chooser.choice((0, 1, 1, 2, 3)))]))
    return either(*branches)


def mixed_item(chooser, depth):
    if depth > 0 and chooser.random() < 0.5:
        atom = brackets(mixed(chooser, depth - 1))
    else:
        atom = place(chooser.choice(("a", "b", "c", ".", "[ab]", "[cb]", "[bca]")))
    return signed(atom, chooser.choice(("", "", "", "*", "+", "?", "?+", "+?")))
