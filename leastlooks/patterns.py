"""Inputs, whose bits are all known, and patterns, in which some may be unknown."""

from leastlooks.checks import MOST, check_bit, check_block, check_count, is_position
from leastlooks.errors import BadInput, BadPattern, BadPosition, UnlikeSizes


def is_input(value):
    """Whether a value is an input."""
    return _is_word(value, "01")


def is_pattern(value):
    """Whether a value is a pattern."""
    return _is_word(value, "-01")


def inputs(many):
    """The ascending list of all inputs of so many positions."""
    check_count(many)
    return _words(["01"] * many)


def patterns(many):
    """The ascending list of all patterns of so many positions."""
    check_count(many)
    return _words(["-01"] * many)


def known(pattern):
    """The ascending list of the known positions."""
    _check_pattern(pattern)
    return [at for at, letter in enumerate(pattern) if letter != "-"]


def size(pattern):
    """The number of the known positions."""
    return len(known(pattern))


def fitting(pattern):
    """The ascending list of the inputs that fit a pattern."""
    _check_pattern(pattern)
    return _words(["01" if letter == "-" else letter for letter in pattern])


def fits(first, second):
    """Whether the first pattern has all known bits of the second one."""
    _check_pair(first, second)
    return all([two in ("-", one) for one, two in zip(first, second)])


def differ(first, second):
    """The ascending list of the positions that are known in both, with different bits."""
    _check_pair(first, second)
    return [at for at in range(len(first)) if first[at] + second[at] in ("01", "10")]


def meet(first, second):
    """The pattern with the known bits of both, or None if they differ."""
    if differ(first, second):
        return None
    return "".join([two if one == "-" else one for one, two in zip(first, second)])


def common(first, second):
    """The pattern of the positions that are known in both, with the same bit."""
    _check_pair(first, second)
    return "".join([one if one == two else "-" for one, two in zip(first, second)])


def with_bit(pattern, position, bit):
    """The pattern with this bit at a position."""
    _check_position(pattern, position)
    check_bit(bit)
    return _replaced(pattern, position, str(bit))


def without(pattern, position):
    """The pattern with a position unknown."""
    _check_position(pattern, position)
    return _replaced(pattern, position, "-")


def turned(text, block):
    """The input with the other bit at each position of a block."""
    _check_block(text, block)
    return "".join([str(1 - int(bit)) if at in block else bit for at, bit in enumerate(text)])


def part(text, block):
    """The pattern with the bits of the input at the positions of a block."""
    _check_block(text, block)
    return "".join([bit if at in block else "-" for at, bit in enumerate(text)])


def unknown(pattern):
    """The ascending list of the unknown positions."""
    return [at for at, letter in enumerate(pattern) if letter == "-"]


def branches(pattern, position):
    """The two patterns in which a position has the bit 0, and the bit 1."""
    return _replaced(pattern, position, "0"), _replaced(pattern, position, "1")


def fitted_by(text):
    """The ascending list of the patterns that an input fits."""
    return _words(["-" + bit for bit in text])


def ones(text):
    """The block of the positions at which an input has the bit 1."""
    return tuple([at for at, bit in enumerate(text) if bit == "1"])


def all_blocks(many):
    """The ascending list of all blocks of so many positions."""
    return sorted([ones(text) for text in inputs(many)])


def all_orders(many):
    """The ascending list of all orders of so many positions."""
    orders = [[]]
    for _ in range(many):
        orders = [order + [position] for order in orders for position in range(many) if position not in order]
    return orders


def check_input_of(text, many):
    """Raise BadInput unless a value is an input of so many positions."""
    if not (is_input(text) and len(text) == many):
        raise BadInput(text)


def check_pattern_of(pattern, many):
    """Raise BadPattern unless a value is a pattern of so many positions."""
    if not (is_pattern(pattern) and len(pattern) == many):
        raise BadPattern(pattern)


def _is_word(value, letters):
    """Whether a value is a string of these letters, one for each of 0 to 6 positions."""
    return isinstance(value, str) and len(value) <= MOST and all([one in letters for one in value])


def _words(choices):
    """All strings with a letter of the first choice, then one of the second one, and so on.

    They are in ascending order if the letters of each choice are.
    """
    words = [""]
    for letters in choices:
        words = [word + letter for word in words for letter in letters]
    return words


def _replaced(pattern, position, letter):
    return pattern[:position] + letter + pattern[position + 1:]


def _check_pattern(pattern):
    if not is_pattern(pattern):
        raise BadPattern(pattern)


def _check_pair(first, second):
    _check_pattern(first)
    _check_pattern(second)
    if len(first) != len(second):
        raise UnlikeSizes(len(first), len(second))


def _check_position(pattern, position):
    _check_pattern(pattern)
    if not is_position(position, len(pattern)):
        raise BadPosition(position)


def _check_block(text, block):
    if not is_input(text):
        raise BadInput(text)
    check_block(block, len(text))
