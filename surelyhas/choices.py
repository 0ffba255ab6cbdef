"""Which lists of an archive to read for a question, at which price (11), and which piece to keep next (13)."""

from surelyhas.archives import check_archive
from surelyhas.arguments import check_found, check_question
from surelyhas.errors import BadPrice
from surelyhas.families import MOST_PIECES, Family
from surelyhas.kinds import are_just_keys, is_row, is_whole
from surelyhas.ranking import Ranking
from surelyhas.reckoning import OPEN, AnswerBook, is_less_sharp
from surelyhas.words import MOST_IN_WORD, is_name


def answers_by(archive, question, choice):
    """Return a dict from all names to the answers by a choice."""
    check_choice(archive, question, choice)
    book = AnswerBook(archive.family.cut(choice), question)
    return {name: book.answer([piece for piece in archive.found(name) if piece in choice]) for name in archive.names}


def is_sharp(archive, question, choice):
    """Return whether for no page the answer by a choice is less sharp than that of the whole family."""
    told = answers_by(archive, question, choice)
    whole = archive.answers(question)
    return not any([is_less_sharp(told[name], whole[name]) for name in told])


def price_of(archive, question, choice, look=0):
    """Return the price of a choice."""
    check_choice(archive, question, choice)
    check_look(look)
    told = answers_by(archive, question, choice)
    return sum([len(archive.listed(piece)) for piece in choice]) + look * list(told.values()).count(OPEN)


def cheapest_sharp(archive, question):
    """Return (choice, price, reasons) for the cheapest sharp choice."""
    check_archive(archive)
    check_question(question)
    choice, price, ahead = Ranking(archive, question).first_sharp()
    return list(choice), price, {other: names[0] for other, names in ahead.items()}


def cheapest(archive, question, look):
    """Return (choice, price, reasons) for the cheapest choice for a look."""
    check_archive(archive)
    check_question(question)
    check_look(look)
    rows = Ranking(archive, question).in_order(look)
    choice, price = rows[0]
    return list(choice), price, {other: more for other, more in rows[1:]}


def check_cheapest(archive, question, choice, told, reasons):
    """Return whether any values are the cheapest sharp choice, its price and right reasons."""
    check_archive(archive)
    check_question(question)
    right, price, ahead = Ranking(archive, question).first_sharp()
    if not is_row(choice, right) or not is_whole(told) or told != price or not are_just_keys(reasons, ahead):
        return False
    return all([is_name(reasons[other]) and reasons[other] in ahead[other] for other in ahead])


def next_piece(archive, question):
    """Return (word, number): the next piece, and how many pages are open with it; None if there can be no more."""
    check_archive(archive)
    check_question(question)
    pieces = archive.family.pieces
    if len(pieces) == MOST_PIECES:
        return None
    pages = open_pages(archive, question)
    told = None
    for word in words_over(archive.family.signs):
        # No word behind it is better than one with which no page is open.
        if word not in pieces and (told is None or told[1] > 0):
            number = open_with(word, archive.family, question, pages)
            if told is None or number < told[1]:
                told = (word, number)
    return told


def words_over(signs):
    """Return the list of all words over some signs, by their lengths and then as texts ascend."""
    told = []
    longest = [""]
    for _ in range(MOST_IN_WORD):
        longest = [word + sign for word in longest for sign in signs]
        told += longest
    return told


def open_pages(archive, question):
    """Return the list of the pages that are open, each with its pieces; with more pieces no others are open."""
    answers = archive.answers(question)
    return [(archive.page(name), archive.found(name)) for name in archive.names if answers[name] == OPEN]


def open_with(word, family, question, pages):
    """Return how many pages are open in a family with one word more; each page stands with its pieces."""
    book = AnswerBook(Family(family.signs, family.pieces + [word]), question)
    had = [[*found, word] if any([word in line for line in page]) else found for page, found in pages]
    return [book.answer(found) for found in had].count(OPEN)


def check_choice(archive, question, choice):
    """Raise an error if values are no archive, no question, or no list of different pieces of its family."""
    check_archive(archive)
    check_question(question)
    check_found(archive.family, choice)


def check_look(look):
    """Raise BadPrice if a value is no integer from 0."""
    if not is_whole(look) or look < 0:
        raise BadPrice(look)
