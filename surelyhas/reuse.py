"""Answers taken from those to learned questions, where these settle them (18)."""

from surelyhas.arguments import check_family, check_found, check_question
from surelyhas.errors import BadQuestion
from surelyhas.reckoning import NEVER, NOT, SURELY, AnswerBook
from surelyhas.within import truths_over


class Memory:
    """Learned questions of a family and their answers."""

    def __init__(self, family):
        check_family(family)
        self._family = family
        self._questions = []
        # For each learned question the book of its answers.
        self._books = []
        # By (number, pieces in alphabetical order), the answers of learned questions that were reckoned.
        self._known = {}
        self._counted = 0

    @property
    def questions(self):
        """The list of the learned questions."""
        return list(self._questions)

    @property
    def counted(self):
        """How many answers were reckoned."""
        return self._counted

    def learn(self, question):
        """Keep a question under the next number, and return the number."""
        check_question(question)
        self._questions.append(question)
        self._books.append(AnswerBook(self._family, question))
        return len(self._questions) - 1

    def ask(self, found, question):
        """Return (answer, number): the answer, and the number of the first learned question that settles it, if any."""
        check_found(self._family, found)
        check_question(question)
        for number, learned in enumerate(self._questions):
            answer = self._settled(number, learned, found, question)
            if answer is not None:
                return answer, number
        self._counted += 1
        return AnswerBook(self._family, question).answer(found), None

    def _settled(self, number, learned, found, question):
        """Return the answer with which a learned question settles another one, None if it does not."""
        try:
            truths = truths_over(self._family.signs, learned, question)
        except BadQuestion:
            return None
        lies_within = (True, False) not in truths
        lies_around = (False, True) not in truths
        lies_within_opposite = (True, True) not in truths
        lies_around_opposite = (False, False) not in truths
        if not (lies_within or lies_around or lies_within_opposite or lies_around_opposite):
            return None
        answer = self._learned_answer(number, found)
        if answer == NEVER or (lies_within and lies_around):
            return answer
        if (answer == SURELY and lies_within) or (answer == NOT and lies_around_opposite):
            return SURELY
        if (answer == NOT and lies_around) or (answer == SURELY and lies_within_opposite):
            return NOT
        return None

    def _learned_answer(self, number, found):
        """Return the answer of a learned question, reckoned once."""
        key = (number, tuple(sorted(found)))
        if key not in self._known:
            self._known[key] = self._books[number].answer(found)
            self._counted += 1
        return self._known[key]
