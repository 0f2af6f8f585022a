"""Questions as sums of products of bits."""

from leastlooks.checks import check_block, check_count, is_block, is_whole
from leastlooks.errors import BadInput, BadSum, NotAnswers
from leastlooks.patterns import all_blocks, inputs, is_input, ones, with_bit
from leastlooks.questions import Question


def products(question):
    """The dict of the integers other than 0 whose sums are the answers, by their blocks."""
    texts = inputs(question.many)
    numbers = {text: question(text) for text in texts}
    for position in range(question.many):
        for text in texts:
            if text[position] == "1":
                numbers[text] -= numbers[with_bit(text, position, 0)]
    found = {ones(text): numbers[text] for text in texts}
    return {block: found[block] for block in sorted(found) if found[block] != 0}


def degree(question):
    """The number d: the greatest number of positions of a block of the sum."""
    return _longest(products(question))


def worth(products, text):
    """The sum of the integers of the blocks at all of whose positions an input has the bit 1."""
    if not is_input(text):
        raise BadInput(text)
    _check_sum(products, len(text))
    return _worth(products, text)


def question_of(many, products):
    """The question that answers each input with its worth."""
    check_count(many)
    _check_sum(products, many)
    yes = []
    for text in inputs(many):
        found = _worth(products, text)
        if found not in (0, 1):
            raise NotAnswers(text)
        if found == 1:
            yes.append(text)
    return Question.of(many, yes)


def odd_products(question):
    """The ascending list of the blocks of which an odd number have the bit 1 throughout at yes inputs alone."""
    # Whether a sum is odd depends only on its odd integers.
    return [block for block, number in products(question).items() if number & 1]


def odd_degree(question):
    """The greatest number of positions of a block of `odd_products`."""
    return _longest(odd_products(question))


def balance(question, block):
    """How many more inputs agree with the block, in being even or odd, than do not."""
    check_block(block, question.many)
    agreeing = 0
    for text, answer in zip(inputs(question.many), question.table):
        odd = [text[at] for at in block].count("1") & 1
        agreeing += 1 if odd == int(answer) else -1
    return agreeing


def balances(question):
    """The dict of the balances other than 0 by their blocks."""
    found = {block: balance(question, block) for block in all_blocks(question.many)}
    return {block: found[block] for block in found if found[block] != 0}


def _worth(numbers, text):
    bits = ones(text)
    return sum([numbers[block] for block in numbers if all([at in bits for at in block])])


def _longest(blocks):
    """The greatest number of positions of some blocks, and 0 if there is none."""
    return max([len(block) for block in blocks], default=0)


def _check_sum(value, many):
    """Raise BadSum unless a value is a dict of integers by blocks of so many positions."""
    if not isinstance(value, dict):
        raise BadSum(value)
    for key in value:
        # No key is a list, so that one with positions is a tuple.
        if not (is_block(key, many) and list(key) == sorted(key) and is_whole(value[key])):
            raise BadSum(value)
