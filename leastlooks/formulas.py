"""Formulas: texts that mean questions."""

from leastlooks.checks import check_count
from leastlooks.errors import BadFormula, BadPattern, BadPosition
from leastlooks.patterns import inputs, is_pattern
from leastlooks.questions import Question

BITS = ("x0", "x1", "x2", "x3", "x4", "x5")
DIGITS = ("0", "1", "2", "3", "4", "5", "6", "7", "8", "9")
# What a formula begins with, behind each `not` before it.
FIRST = ("x0", "x1", "x2", "x3", "x4", "x5", "0", "1", "(", "atleast")
# The words that join formulas, from the one that binds least.
JOINING = ("or", "xor", "and")
# All that stands in a formula with each position at most once, beside the positions.
PLAIN = ("not", "and", "or", "(", ")")
END = ""


class Formula:
    """The formula with a text."""

    def __init__(self, text):
        tokens = _tokens(text)
        self._root = Reader(tokens).whole()
        self._words = [word for _, word in tokens[:-1]]

    def positions(self):
        """The ascending list of the positions that occur."""
        return sorted({int(word[1]) for word in self._words if word in BITS})

    def question(self, many):
        """The question with so many positions that the formula means."""
        check_count(many)
        self._check_positions(many)
        return Question.of(many, [text for text in inputs(many) if _seen(self._root, text) == 1])

    def seen(self, pattern):
        """The answer that the parts of the formula show at a pattern, or None."""
        if not is_pattern(pattern):
            raise BadPattern(pattern)
        self._check_positions(len(pattern))
        return _seen(self._root, pattern)

    def is_once(self):
        """Whether nothing but `not`, `and`, `or` and brackets joins positions that occur once."""
        bits = [word for word in self._words if word in BITS]
        others = [word for word in self._words if word not in BITS]
        return len(set(bits)) == len(bits) and all([word in PLAIN for word in others])

    def _check_positions(self, many):
        for position in self.positions():
            if position >= many:
                raise BadPosition(position)


class Reader:
    """Reads a formula off its tokens.

    A formula becomes a node: a tuple of a word, a number and the list of the nodes of its parts.
    """

    def __init__(self, tokens):
        self.tokens = tokens
        self.taken = 0

    def whole(self):
        """The node of all tokens."""
        node = self.joined(0)
        self.take((END,))
        return node

    def joined(self, level):
        """The node of parts that a word of JOINING joins, or of a single part."""
        if level == len(JOINING):
            return self.negated()
        parts = [self.joined(level + 1)]
        while self.next_word() == JOINING[level]:
            self.take(JOINING)
            parts.append(self.joined(level + 1))
        return _join(JOINING[level], parts)

    def negated(self):
        """The node of a formula behind any number of `not`."""
        # Two of them cancel each other out, for None too, so that many of them nest no deeper.
        odd = False
        while self.next_word() == "not":
            self.take(("not",))
            odd = not odd
        node = self.single()
        return ("not", 0, [node]) if odd else node

    def single(self):
        """The node of a position, a constant, or a formula in brackets."""
        word = self.take(FIRST)
        if word == "(":
            node = self.joined(0)
            self.take((")",))
            return node
        if word == "atleast":
            return self.counted()
        if word in BITS:
            return ("bit", int(word[1]), [])
        return ("constant", int(word), [])

    def counted(self):
        """The node of what stands in brackets behind `atleast`."""
        self.take(("(",))
        count = int(self.take(DIGITS))
        self.take((",",))
        parts = [self.joined(0)]
        while self.take((",", ")")) == ",":
            parts.append(self.joined(0))
        return ("atleast", count, parts)

    def next_word(self):
        """The token that comes next."""
        return self.tokens[self.taken][1]

    def take(self, words):
        """Take the next token, which no formula goes on with unless it is one of these words."""
        at, word = self.tokens[self.taken]
        if word not in words:
            raise BadFormula(at)
        self.taken += 1
        return word


def formula_of(question):
    """A text of a formula that means a question."""
    return _told(question.table, 0)


def _told(table, position):
    """A text for a table whose first bit is the one at a position."""
    if "1" not in table:
        return "0"
    if "0" not in table:
        return "1"
    half = len(table) // 2
    low, high = table[:half], table[half:]
    if low == high:
        return _told(low, position + 1)
    cases = [(f"not x{position}", low), (f"x{position}", high)]
    return " or ".join([_case(bit, rest, position + 1) for bit, rest in cases if "1" in rest])


def _case(bit, rest, position):
    """A text that means a bit and the rest of a table."""
    if "0" not in rest:
        return bit
    return f"{bit} and ({_told(rest, position)})"


def _tokens(text):
    """The list of the tuples (index, token) of a text, and of its end."""
    found = []
    at = 0
    while at < len(text):
        end = _token_end(text, at)
        if text[at] != " ":
            found.append((at, text[at:end]))
        at = end
    found.append((len(text), END))
    return found


def _token_end(text, at):
    """The index behind the token, or the space, that begins at an index."""
    end = at + 1
    if text[at].isalnum():
        while end < len(text) and text[end].isalnum():
            end += 1
    return end


def _join(word, parts):
    """The node of parts that are joined by a word."""
    if len(parts) == 1:
        return parts[0]
    if word == "xor":
        return ("xor", 0, parts)
    # By the rules of point 34, `or` sees what `atleast` 1 sees, and `and` what `atleast` all sees.
    return ("atleast", 1 if word == "or" else len(parts), parts)


def _seen(node, pattern):
    """What a node shows at a pattern: 0, 1 or None."""
    word, number, parts = node
    if word == "constant":
        return number
    if word == "bit":
        return None if pattern[number] == "-" else int(pattern[number])
    values = [_seen(one, pattern) for one in parts]
    if word == "atleast":
        return _enough(values, number)
    if None in values:
        return None
    return 1 - values[0] if word == "not" else sum(values) & 1


def _enough(values, count):
    """Whether so many values are 1, as 0 or 1, or None if the unknown ones decide it."""
    if values.count(1) >= count:
        return 1
    if values.count(1) + values.count(None) < count:
        return 0
    return None
