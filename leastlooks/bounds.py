"""The numbers of a question, and how each of them bounds the others."""

from leastlooks.looks import looks
from leastlooks.patterns import branches, differ, fitting, part, size, unknown
from leastlooks.settling import lean_patterns, settled_answers, settling_numbers
from leastlooks.sums import degree, products
from leastlooks.turning import apart_blocks, block_numbers, sensitive_positions, sensitivity_numbers


def numbers(question):
    """The tuple (D, (c0, c1), (s0, s1), (b0, b1), d) of a question."""
    return (looks(question), settling_numbers(question), sensitivity_numbers(question), block_numbers(question),
            degree(question))


def bounds(question):
    """The list of the tuples (name, left, right) of the bounds: left is at most right."""
    most, settling, sensitivity, blocks, high = numbers(question)
    s, b, c = max(sensitivity), max(blocks), max(settling)
    return [
        ("s b", s, b),
        ("b c", b, c),
        ("c sb", c, s * b),
        ("c D", c, most),
        ("D cc", most, settling[0] * settling[1]),
        ("D cb", most, settling[1] * blocks[0]),
        ("d D", high, most),
        ("d ss", high, s * s),
        ("b dd", b, high * high),
    ]


def rounds_tree(question, answer):
    """The tree of the looks of the rounds for a chosen answer."""
    tree, _ = _rounds(question, answer)
    return tree


def most_rounds(question, answer):
    """The greatest number of rounds for a chosen answer that are begun on one input."""
    _, count = _rounds(question, answer)
    return count


def union_settles(question, text):
    """The tuple of the disjoint lean blocks at an input and of the pattern of its bits there, which settles."""
    blocks = apart_blocks(question, text)
    return blocks, part(text, [position for block in blocks for position in block])


def hub(question):
    """A tuple (product, text, positions) of a longest product and of the input with most sensitive bits in it."""
    sums = products(question)
    longest = degree(question)
    if longest == 0:
        return None
    product = [block for block in sums if len(block) == longest][0]
    pattern = "".join(["-" if at in product else "0" for at in range(question.many)])
    rows = [(text, _sensitive_within(question, text, product)) for text in fitting(pattern)]
    text, positions = max(rows, key=lambda row: len(row[1]))
    return product, text, positions


def _sensitive_within(question, text, block):
    """The ascending list of the sensitive positions at an input that are in a block."""
    return [position for position in sensitive_positions(question, text) if position in block]


def _rounds(question, answer):
    """The tree of the rounds, and the greatest number of rounds on one input."""
    # A round never takes a pattern that is not lean: without a spare position it would be smaller.
    wanted = sorted(lean_patterns(question, answer), key=size)
    return _gone_on(settled_answers(question), wanted, "-" * question.many, [])


def _gone_on(answers, wanted, pattern, waiting):
    """The tree of the rounds from a known pattern on, and the greatest number of rounds that begin there.

    `wanted` are the patterns that a round may take, the first one first, and `waiting` the positions at which
    the round that has begun is still to look.
    """
    if answers[pattern] is not None:
        return answers[pattern], 0
    begun = 0 if waiting else 1
    position, *rest = waiting if waiting else _next_round(wanted, pattern)
    lower, higher = branches(pattern, position)
    low, first = _gone_on(answers, wanted, lower, rest)
    high, second = _gone_on(answers, wanted, higher, rest)
    return (position, low, high), begun + max(first, second)


def _next_round(wanted, pattern):
    """The positions at which a round looks that begins with a known pattern."""
    taken = [one for one in wanted if not differ(one, pattern)][0]
    return [position for position in unknown(pattern) if taken[position] != "-"]
