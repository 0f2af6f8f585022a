"""The words of DOC.md about questions once more, in a plain and slow way, for tests to compare with."""

import random
from functools import lru_cache
from itertools import combinations

from tests.samples import answers, fits, flipped, words


def table_of(many, deed):
    """The table of the answers that a function gives."""
    return "".join(str(int(deed(text))) for text in words("01", many))


def special_tables(many):
    """Constant questions, parity, `at_least`, and questions that do not depend on all positions."""
    found = [table_of(many, lambda text: text.count("1") % 2)]
    found += [table_of(many, lambda text: text.count("1") >= count) for count in range(many + 2)]
    found += [table_of(many, lambda text: text[0] == "1"), table_of(many, lambda text: text[-1] == "0")] if many else []
    if many > 2:
        found += [table_of(many, lambda text: text[0] != text[2]), table_of(many, lambda text: "11" in text),
                  table_of(many, lambda text: text[1] == "1" or text[2:] == "0" * (many - 2))]
    return found


def random_tables(many, count):
    """So many tables, the same in each run; some have few yes inputs and some many."""
    source = random.Random(100 * many + count)
    return ["".join(source.choice(("01", "0001", "0111")[at % 3]) for _ in range(2 ** many)) for at in range(count)]


EVERY = [table for many in range(4) for table in words("01", 2 ** many)]
FEW = [table for many in range(4) for table in special_tables(many) + random_tables(many, 4)]
MORE = [table for many in (4, 5) for table in special_tables(many) + random_tables(many, 6)]
SIX = special_tables(6) + random_tables(6, 3)


def many_of(table):
    return len(table).bit_length() - 1


def blocks(many):
    """All blocks in ascending order."""
    return sorted(block for count in range(many + 1) for block in combinations(range(many), count))


def fixed(pattern, position, bit):
    return pattern[:position] + bit + pattern[position + 1:]


def size(pattern):
    return len([letter for letter in pattern if letter != "-"])


def unknown(pattern):
    return [position for position, letter in enumerate(pattern) if letter == "-"]


@lru_cache(None)
def settled(table):
    """Point 3: the answer of each pattern, or None."""
    every = answers(table)
    found = {}
    for pattern in words("-01", many_of(table)):
        seen = {every[text] for text in every if fits(text, pattern)}
        found[pattern] = seen.pop() if len(seen) == 1 else None
    return found


@lru_cache(None)
def sizes(table):
    """Point 5: c(x) by the inputs."""
    settling = [pattern for pattern, answer in settled(table).items() if answer is not None]
    return {text: min(size(pattern) for pattern in settling if fits(text, pattern)) for text in answers(table)}


@lru_cache(None)
def sensitive(table, text):
    """Point 4: all sensitive blocks at an input."""
    every = answers(table)
    return [block for block in blocks(len(text)) if every[flipped(text, block)] != every[text]]


def lean(table, text):
    """Point 52: all lean blocks at an input."""
    found = sensitive(table, text)
    return [block for block in found if not any(set(other) < set(block) for other in found)]


def positions(table, text):
    """The sensitive positions at an input."""
    return [block[0] for block in sensitive(table, text) if len(block) == 1]


def most_apart(table, text):
    """Point 5: b(x), from all sensitive blocks."""
    found = [frozenset(block) for block in sensitive(table, text)]

    @lru_cache(None)
    def most(free):
        return max((1 + most(free - block) for block in found if block <= free), default=0)
    return most(frozenset(range(len(text))))


def apart_lists(given):
    """All ascending lists of disjoint blocks of an ascending list."""
    if not given:
        return [[]]
    first, rest = given[0], given[1:]
    apart = [block for block in rest if not set(block) & set(first)]
    return apart_lists(rest) + [[first] + found for found in apart_lists(apart)]


def by_answer(table, numbers):
    """The greatest number at a no input, and at a yes input."""
    every = answers(table)
    return tuple(max((numbers[text] for text in every if every[text] == answer), default=0) for answer in (0, 1))


@lru_cache(None)
def products(table):
    """Point 61: the integers other than 0, by the blocks."""
    many = many_of(table)
    found = {}
    for block in sorted(blocks(many), key=len):
        text = "".join("1" if position in block else "0" for position in range(many))
        found[block] = answers(table)[text] - sum(found[other] for other in found if set(other) < set(block))
    return {block: found[block] for block in sorted(found) if found[block]}


def degree(table):
    return max((len(block) for block in products(table)), default=0)


def halves(table, position):
    """The tables behind a look at a position."""
    every = answers(table)
    return tuple("".join(str(every[text]) for text in every if text[position] == bit) for bit in "01")


@lru_cache(None)
def fewest(table):
    """The number D."""
    if len(set(table)) == 1:
        return 0
    return 1 + min(max(fewest(half) for half in halves(table, position)) for position in range(many_of(table)))


def rest(table, pattern):
    """The table of the question about the unknown positions of a pattern."""
    every = answers(table)
    return "".join(str(every[text]) for text in every if fits(text, pattern))


def left(table, pattern):
    """Point 81: the looks that are left at a pattern."""
    return fewest(rest(table, pattern))


def way(tree, text):
    """The positions at which a tree looks with an input, and the answer at the end."""
    places = []
    while tree not in (0, 1):
        position, low, high = tree
        places.append(position)
        tree = high if text[position] == "1" else low
    return places, tree


def is_right(table, tree):
    return all(way(tree, text)[1] == answer for text, answer in answers(table).items())


def deep(tree):
    return 0 if tree in (0, 1) else 1 + max(deep(tree[1]), deep(tree[2]))
