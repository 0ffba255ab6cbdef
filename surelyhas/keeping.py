"""Which pieces of a family must be kept for some questions (13)."""

from surelyhas.arguments import check_found, check_questions, check_small_family
from surelyhas.bits import piece_bits, pieces_of
from surelyhas.kinds import are_just_keys, is_choice, is_row, is_whole
from surelyhas.orders import all_choices
from surelyhas.reckoning import cut_answers, known_answers


class Losses:
    """What is lost of the answers to some questions where only some pieces of a family are kept."""

    def __init__(self, family, questions):
        self._pieces = family.pieces
        self._answers = [known_answers(family, question) for question in questions]

    def kept(self):
        """Return (choice, ahead): the kept pieces, and a dict from each choice ahead to a loss by it."""
        choices = all_choices(self._pieces)
        losses = [self.first_loss(choice) for choice in choices]
        # By all pieces together nothing is lost, so there is one.
        least = losses.index(None)
        return choices[least], {choices[at]: losses[at] for at in range(least)}

    def first_loss(self, choice):
        """Return (number of a question, found) for the first answer that is lost by a choice, None if none is."""
        bits = piece_bits(choice, self._pieces)
        for number, answers in enumerate(self._answers):
            told = cut_answers(answers, bits)
            for found, answer in answers.items():
                if told[found & bits] != answer:
                    return number, pieces_of(found, self._pieces)
        return None

    def is_loss(self, choice, value):
        """Return whether any value is (number of a question, found) for an answer that is lost by a choice."""
        if not isinstance(value, tuple) or len(value) != 2:
            return False
        number, found = value
        if not is_whole(number) or not 0 <= number < len(self._answers) or not is_choice(found, self._pieces):
            return False
        answers = self._answers[number]
        had = piece_bits(found, self._pieces)
        bits = piece_bits(choice, self._pieces)
        return had in answers and cut_answers(answers, bits)[had & bits] != answers[had]


def do_keep(family, questions, choice):
    """Return whether the pieces of a choice keep all of a list of questions."""
    check_small_family(family)
    check_questions(questions)
    check_found(family, choice)
    return Losses(family, questions).first_loss(choice) is None


def kept_pieces(family, questions):
    """Return (choice, reasons): the kept pieces, and for each choice ahead an answer that is lost by it."""
    check_small_family(family)
    check_questions(questions)
    choice, reasons = Losses(family, questions).kept()
    return list(choice), reasons


def check_kept(family, questions, choice, reasons):
    """Return whether any value as choice is the kept pieces, and any value as reasons right reasons."""
    check_small_family(family)
    check_questions(questions)
    losses = Losses(family, questions)
    right, ahead = losses.kept()
    if not is_row(choice, right) or not are_just_keys(reasons, ahead):
        return False
    return all([losses.is_loss(other, reasons[other]) for other in ahead])
