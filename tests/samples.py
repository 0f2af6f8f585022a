"""Values and plain definitions that several tests share."""

import random
from itertools import product

from leastlooks.errors import LooksError
from leastlooks.formulas import Formula
from leastlooks.questions import Question

DEEP = [[{"a": [("x", [True])]}]]

# Some of any value (point 9); no two of them are told apart by their position in this list.
ANY = [
    None, True, False, 0, 1, -1, 2, 7, 64, 10 ** 39, -10 ** 39,
    "", "0", "1", "-", "01", "0-1", "2", "o", " 0", "0 ", "0\\", "abc", "x0", "000000", "0101-1", "0000000", "-------",
    [], ["0"], [0], [1, 0], [True], (), ("0", "1"), (0,), (1, 0), {}, {"0": 1}, {0: "0"}, DEEP,
    Question("0"), Question("01"), Formula("x0"), ValueError, LooksError,
]


def words(letters, many):
    """All strings of so many letters, in ascending order."""
    return ["".join(one) for one in product(sorted(letters), repeat=many)]


def fits(first, second):
    """Point 2, for two strings of the same length."""
    return all(second[k] == "-" or second[k] == first[k] for k in range(len(second)))


def flipped(text, block):
    """Point 4: turning a block in an input."""
    bits = list(text)
    for position in block:
        bits[position] = {"0": "1", "1": "0"}[bits[position]]
    return "".join(bits)


def answers(table):
    """The answers of a table by the inputs."""
    many = (1, 2, 4, 8, 16, 32, 64).index(len(table))
    return dict(zip(words("01", many), [int(one) for one in table]))


def some_tables(many, count):
    """So many tables, the same in each run, with constant and sparse ones among them."""
    source = random.Random(1000 * many + count)
    length = 2 ** many
    tables = ["0" * length, "1" * length, "0" * (length - 1) + "1", "1" + "0" * (length - 1)]
    while len(tables) < count:
        tables.append("".join(source.choice("01") for _ in range(length)))
    return tables[:count]


def raised(deed, *given, **named):
    """The error of this package that a call raises, as (class, attributes), or None."""
    try:
        deed(*given, **named)
    except LooksError as error:
        return error.__class__, tuple(vars(error).values())
    return None


def same(first, second):
    """Whether two values are of the same kind and equal, inside too."""
    if isinstance(first, (list, tuple)) and first.__class__ == second.__class__:
        return len(first) == len(second) and all(same(a, b) for a, b in zip(first, second))
    return first.__class__ == second.__class__ and first == second
