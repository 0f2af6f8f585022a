"""Looks of which a few tell a wrong bit.

The spares, in this file, are a tuple that tells for each input, in ascending order, how many looks more could tell
another bit than it has; -1 means that it is not open.
"""

from leastlooks.checks import check_count, is_position
from leastlooks.errors import BadPosition, BadTold, NoneLeft, TooMany
from leastlooks.patterns import inputs

MOST_POSITIONS = 3
MOST_LIES = 2


class Game:
    """The looks at the positions of one question, from any spares on."""

    def __init__(self, question):
        self.places = list(range(question.many))
        self.texts = inputs(question.many)
        self.answers = [question(text) for text in self.texts]
        # What is known already of `needed`, by the spares.
        self.found = {}

    def answer(self, spares):
        """The answer of all open inputs, or None."""
        answers = sorted({answer for answer, spare in zip(self.answers, spares) if spare >= 0})
        return answers[0] if len(answers) == 1 else None

    def needed(self, spares):
        """The least number of looks behind which all open inputs have the same answer."""
        if spares not in self.found:
            self.found[spares] = min(self.costs(spares).values(), default=0)
        return self.found[spares]

    def costs(self, spares):
        """The looks that are needed if the next one is at a position, by the positions; none if none is needed.

        A position at which all open inputs have the same bit is left out: this bit would tell nothing.
        """
        if self.answer(spares) is not None:
            return {}
        found = {}
        for position in self.places:
            low, high = [self.behind(spares, position, bit) for bit in (0, 1)]
            if spares not in (low, high):
                found[position] = 1 + max(self.needed(low), self.needed(high))
        return found

    def behind(self, spares, position, bit):
        """The spares behind a look that tells a bit."""
        letter = str(bit)
        return tuple([spare if text[position] == letter else max(-1, spare - 1)
                      for text, spare in zip(self.texts, spares)])


def open_inputs(many, lies, told):
    """The ascending list of the inputs at which no more of the told bits are wrong than there may be lies."""
    spares = _spares(many, lies, told)
    return [text for text, spare in zip(inputs(many), spares) if spare >= 0]


def told_answer(question, lies, told):
    """The answer of all open inputs, or None if their answers differ."""
    spares = _spares(question.many, lies, told)
    return Game(question).answer(spares)


def lie_looks(question, lies, told=()):
    """The least number of further looks behind which all open inputs have the same answer."""
    spares = _spares(question.many, lies, told)
    return Game(question).needed(spares)


def next_looks(question, lies, told=()):
    """The ascending list of the positions to look at next so that no more looks than needed are made in all."""
    spares = _spares(question.many, lies, told)
    costs = Game(question).costs(spares)
    least = min(costs.values(), default=0)
    return [position for position in costs if costs[position] == least]


def hard_bit(question, lies, told, position):
    """The bit that a look at a position can tell behind which more looks are needed."""
    spares = _spares(question.many, lies, told)
    if not is_position(position, question.many):
        raise BadPosition(position)
    game = Game(question)
    low, high = [game.behind(spares, position, bit) for bit in (0, 1)]
    if max(low) < 0:
        return 1
    if max(high) < 0:
        return 0
    return 1 if game.needed(high) > game.needed(low) else 0


def _spares(many, lies, told):
    """The spares behind the told bits, if all that is passed is right and some input is open."""
    if many > MOST_POSITIONS:
        raise TooMany(many)
    check_count(lies, MOST_LIES)
    if not _are_told(told, many):
        raise BadTold(told)
    spares = tuple([max(-1, lies - _wrong(told, text)) for text in inputs(many)])
    if max(spares) < 0:
        raise NoneLeft()
    return spares


def _are_told(value, many):
    """Whether a value is a list of tuples of a position and a bit."""
    return isinstance(value, (list, tuple)) and all([_is_told(item, many) for item in value])


def _is_told(item, many):
    return isinstance(item, tuple) and len(item) == 2 and is_position(item[0], many) and is_position(item[1], 2)


def _wrong(told, text):
    """How many of the told bits an input does not have."""
    return len([bit for position, bit in told if text[position] != str(bit)])
