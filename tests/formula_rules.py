"""Points 31, 32 and 34 once more, by Python's own reading of `~ & ^ |`, for tests to compare with."""

import random
import re

SIGNS = {"not": "~", "and": "&", "xor": "^", "or": "|"}
WORDS = ["x0", "x1", "x2", "x3", "x4", "x5", "0", "1", "not", "and", "xor", "or", "atleast", "(", ")", ",", "2", "9"]


class Three:
    """A value 0, 1 or None, with the rules of point 34."""

    def __init__(self, value):
        self.value = value

    def __invert__(self):
        return Three({0: 1, 1: 0, None: None}[self.value])

    def __and__(self, other):
        both = (self.value, other.value)
        return Three(0 if 0 in both else None if None in both else 1)

    def __or__(self, other):
        both = (self.value, other.value)
        return Three(1 if 1 in both else None if None in both else 0)

    def __xor__(self, other):
        both = (self.value, other.value)
        return Three(None if None in both else int(both[0] != both[1]))


def atleast(count, *parts):
    values = [one.value for one in parts]
    if len([one for one in values if one == 1]) >= count:
        return Three(1)
    if len([one for one in values if one != 0]) < count:
        return Three(0)
    return Three(None)


def tokens(text):
    return [(found.start(), found.group()) for found in re.finditer("[A-Za-z0-9]+|[^ ]", text)]


def seen(text, pattern):
    """The value of a formula at a pattern."""
    signs = []
    for at, (_, word) in enumerate(tokens(text)):
        if at > 1 and tokens(text)[at - 2][1] == "atleast":
            signs.append(word)
        elif word in ("0", "1"):
            signs.append(f"Three({word})")
        elif re.fullmatch("x[0-5]", word):
            signs.append(f"Three({ {'0': 0, '1': 1, '-': None}[pattern[int(word[1])]] })")
        else:
            signs.append(SIGNS.get(word, word))
    return eval(" ".join(signs), {"Three": Three, "atleast": atleast}).value


def fault(text):
    """The index that point 32 tells, or None for a formula: a row of states, and a stack of brackets."""
    state, held = "part", []
    for at, word in tokens(text):
        if state == "part" and (word in ("0", "1") or re.fullmatch("x[0-5]", word)):
            state = "joint"
        elif state == "part" and word == "(":
            held.append("(")
        elif state == "part" and word == "atleast":
            state = "bracket"
        elif state == "part" and word == "not":
            pass
        elif state == "bracket" and word == "(":
            held.append("atleast")
            state = "digit"
        elif state == "digit" and re.fullmatch("[0-9]", word):
            state = "comma"
        elif state == "comma" and word == ",":
            state = "part"
        elif state == "joint" and word in ("and", "xor", "or"):
            state = "part"
        elif state == "joint" and word == "," and held and held[-1] == "atleast":
            state = "part"
        elif state == "joint" and word == ")" and held:
            held.pop()
        else:
            return at
    return None if state == "joint" and not held else len(text)


def some_formula(source, depth, many=6):
    """The tokens of a formula by chance."""
    kind = source.randrange(8) if depth else 0
    if kind < 2:
        return [source.choice(["0", "1"]) if source.random() < 0.1 else f"x{source.randrange(many)}"]
    parts = [some_formula(source, depth - 1, many) for _ in range(source.randrange(1, 5))]
    if kind == 2:
        return ["not"] * source.randrange(1, 4) + bracketed(source, parts[0])
    if kind == 3:
        return ["(", *parts[0], ")"]
    if kind == 4:
        row = ["atleast", "(", str(source.randrange(6))]
        for part in parts:
            row += [",", *part]
        return [*row, ")"]
    row = parts[0]
    for part in parts[1:]:
        row = row + [source.choice(["and", "xor", "or"])] + bracketed(source, part)
    return row


def bracketed(source, part):
    return ["(", *part, ")"] if source.random() < 0.3 else part


def spaced(source, row):
    """A text of tokens with spaces in all places, or none where none is needed."""
    text = " " * source.choice([0, 0, 1, 3])
    for at, word in enumerate(row):
        gap = source.choice([0, 0, 0, 1, 1, 2])
        if at and gap == 0 and word[0].isalnum() and row[at - 1][-1].isalnum():
            gap = 1
        text += (" " * gap if at else "") + word
    return text + " " * source.choice([0, 0, 1, 2])


def some_formulas(count, seed, depth=4, many=6, most=400):
    """So many texts of formulas, the same in each run."""
    source = random.Random(seed)
    texts = []
    while len(texts) < count:
        text = spaced(source, some_formula(source, depth, many))
        if len(text) <= most:
            texts.append(text)
    return texts


def short_formulas(most, single=("x0", "1")):
    """All formulas of up to so many tokens out of a few, as tuples of tokens, by the words of point 31."""
    by_length = {0: set()}
    lists = {0: set()}  # one or more formulas, a comma before each
    for length in range(1, most + 1):
        found = {(one,) for one in single} if length == 1 else set()
        found |= {("not", *one) for one in by_length[length - 1]}
        if length > 2:
            found |= {("(", *one, ")") for one in by_length[length - 2]}
        for left in range(1, length - 1):
            found |= {(*a, "and", *b) for a in by_length[left] for b in by_length[length - 1 - left]}
        if length > 5:
            found |= {("atleast", "(", "1", *one, ")") for one in lists[length - 4]}
        by_length[length] = found
        rows = {(",", *one) for one in by_length[length - 1]}
        for left in range(2, length - 1):
            rows |= {(*a, *b) for a in lists[left] for b in lists[length - left]}
        lists[length] = rows
    return set().union(*by_length.values())
