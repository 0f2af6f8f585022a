"""What is known of a hidden question."""

from leastlooks.checks import check_count, is_position
from leastlooks.errors import BadFact, NothingToUndo
from leastlooks.kinds import MOST_LISTED, all_tables
from leastlooks.looks import looks
from leastlooks.patterns import check_input_of, inputs, is_input
from leastlooks.questions import Question
from leastlooks.settling import settling_numbers
from leastlooks.sums import degree
from leastlooks.turning import block_numbers, sensitivity_numbers

# The greatest count that a fact may tell.
MOST_COUNT = 64


def _yes(question):
    return len(question)


def _looks(question):
    return looks(question)


def _settling(question):
    return max(settling_numbers(question))


def _sensitivity(question):
    return max(sensitivity_numbers(question))


def _blocks(question):
    return max(block_numbers(question))


def _degree(question):
    return degree(question)


# The functions that tell the number of a question which a fact speaks of, each defined in this file.
NUMBERS = {
    "yes": _yes,
    "looks": _looks,
    "settling": _settling,
    "sensitivity": _sensitivity,
    "blocks": _blocks,
    "degree": _degree,
}


class Guesses:
    """The questions with so many positions that fit all that was told."""

    def __init__(self, many):
        check_count(many, MOST_LISTED)
        self._size = many
        self._facts = []
        # The ascending lists of the tables that fit no facts, the first one, the first two, and so on.
        self._fitting = [all_tables(many)]

    def __len__(self):
        return len(self._facts)

    def __contains__(self, value):
        return isinstance(value, Question) and value.table in self._fitting[-1]

    def tell(self, fact):
        """Take in a fact, and return True, if some question fits it and all facts before it."""
        if not _is_fact(fact, self._size):
            raise BadFact(fact)
        tables = [table for table in self._fitting[-1] if _fits(Question(table), fact)]
        if not tables:
            return False
        self._facts.append(fact)
        self._fitting.append(tables)
        return True

    def facts(self):
        """The list of the facts in the order in which they were told."""
        return list(self._facts)

    def undo(self):
        """Take the last fact back."""
        if not self._facts:
            raise NothingToUndo()
        self._facts.pop()
        self._fitting.pop()

    def number(self):
        """The number of the questions that fit."""
        return len(self._fitting[-1])

    def least(self):
        """The fitting question with the least table."""
        return Question(self._fitting[-1][0])

    def answer(self, text):
        """The answer of all fitting questions to an input, or None if they differ."""
        check_input_of(text, self._size)
        place = inputs(self._size).index(text)
        answers = sorted({table[place] for table in self._fitting[-1]})
        return int(answers[0]) if len(answers) == 1 else None


def _is_fact(value, many):
    """Whether a value is a fact about a question with so many positions."""
    if not isinstance(value, tuple) or len(value) not in (2, 3) or not isinstance(value[0], str):
        return False
    if len(value) == 2:
        return value[0] in NUMBERS and is_position(value[1], MOST_COUNT + 1)
    word, text, bit = value
    return word == "answer" and is_input(text) and len(text) == many and is_position(bit, 2)


def _fits(question, fact):
    """Whether a question fits a fact."""
    if len(fact) == 3:
        return question(fact[1]) == fact[2]
    measure = NUMBERS[fact[0]]
    return measure(question) == fact[1]
