"""What the functions of this package ask of the values that they are passed."""

from leastlooks.errors import BadBit, BadBlock, BadCount, BadOrder

MOST = 6


def is_whole(value):
    """Whether a value is an integer, which True and False are not."""
    return isinstance(value, int) and not isinstance(value, bool)


def is_position(value, many):
    """Whether a value is one of so many positions."""
    return is_whole(value) and 0 <= value < many


def is_block(value, many):
    """Whether a value is a list, or a tuple, of different ones of so many positions."""
    if not isinstance(value, (list, tuple)):
        return False
    return all([is_position(item, many) for item in value]) and len(set(value)) == len(value)


def are_amounts(value, count):
    """Whether a value is a list, or a tuple, of so many integers of at least 0."""
    if not isinstance(value, (list, tuple)) or len(value) != count:
        return False
    return all([is_whole(item) and item >= 0 for item in value])


def check_count(many, most=MOST):
    """Raise BadCount unless a value is an integer from 0 to the greatest one allowed."""
    if not is_position(many, most + 1):
        raise BadCount(many)


def check_bit(bit):
    """Raise BadBit unless a value is the integer 0 or 1."""
    if not is_position(bit, 2):
        raise BadBit(bit)


def check_block(block, many):
    """Raise BadBlock unless a value is a list of different ones of so many positions."""
    if not is_block(block, many):
        raise BadBlock(block)


def check_order(order, many):
    """Raise BadOrder unless a value is a list of all of so many positions, each once."""
    if not (is_block(order, many) and len(order) == many):
        raise BadOrder(order)
