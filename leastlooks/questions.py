"""Questions, which give each input an answer."""

from leastlooks.checks import MOST, check_bit, check_count, check_order, is_position
from leastlooks.errors import BadPosition, BadTable, TooMany, UnlikeSizes
from leastlooks.patterns import check_input_of, check_pattern_of, fitting, inputs, turned, with_bit

# The length of a table, by the number of positions.
LENGTHS = (1, 2, 4, 8, 16, 32, 64)


class Question:
    """The question with a table: the answers of all inputs in ascending order."""

    def __init__(self, table):
        if not _is_table(table):
            raise BadTable(table)
        self._table = table
        self._many = LENGTHS.index(len(table))
        self._yes = [text for text, answer in zip(inputs(self._many), table) if answer == "1"]

    @property
    def table(self):
        """The string of the answers of all inputs in ascending order."""
        return self._table

    @property
    def many(self):
        """The number of positions."""
        return self._many

    def __str__(self):
        return str(self._table)

    def __eq__(self, other):
        return isinstance(other, Question) and self._table == other._table

    def __call__(self, text):
        check_input_of(text, self._many)
        return int(self._table[_place(text)])

    def __len__(self):
        return len(self._yes)

    def __iter__(self):
        return iter(self._yes)

    def __contains__(self, value):
        return isinstance(value, str) and value in self._yes

    def __and__(self, other):
        return _counted(self, other, (2,))

    def __or__(self, other):
        return _counted(self, other, (1, 2))

    def __xor__(self, other):
        return _counted(self, other, (1,))

    def __invert__(self):
        return Question(_table_of([answer == "0" for answer in self._table]))

    def settled(self, pattern):
        """The answer of all inputs that fit a pattern, or None if their answers differ."""
        answers = self.restricted(pattern).table
        return None if "0" in answers and "1" in answers else int(answers[0])

    def restricted(self, pattern):
        """The question about the unknown positions of a pattern."""
        check_pattern_of(pattern, self._many)
        return self._taken_from(fitting(pattern))

    def turned_at(self, block):
        """The question that answers as this one does with a block turned."""
        return self._taken_from([turned(text, block) for text in inputs(self._many)])

    def reordered(self, order):
        """The question whose bit at each index k is the bit of this one at order[k]."""
        check_order(order, self._many)
        places = [order.index(position) for position in range(self._many)]
        return self._taken_from(["".join([text[at] for at in places]) for text in inputs(self._many)])

    def with_idle(self, position):
        """The question with one more position, whose bit makes no difference."""
        if not is_position(position, self._many + 1):
            raise BadPosition(position)
        if self._many == MOST:
            raise TooMany(MOST + 1)
        return self._taken_from([text[:position] + text[position + 1:] for text in inputs(self._many + 1)])

    def relevant(self):
        """The ascending list of the positions that make a difference at some input."""
        return [position for position in range(self._many) if self.turned_at([position]) != self]

    def is_rising(self):
        """Whether no answer goes from 1 to 0 when a single bit goes from 0 to 1."""
        return all([with_bit(text, at, 1) in self for text in self._yes for at in range(self._many)])

    def dual(self):
        """The question with the other answer to the input with all positions turned."""
        return ~self.turned_at(list(range(self._many)))

    @classmethod
    def constant(cls, many, answer):
        """The question with the same answer to each input."""
        check_count(many)
        check_bit(answer)
        return cls(str(answer) * LENGTHS[many])

    @classmethod
    def bit_at(cls, many, position):
        """The question for the bit at a position."""
        check_count(many)
        if not is_position(position, many):
            raise BadPosition(position)
        return cls("".join([text[position] for text in inputs(many)]))

    @classmethod
    def at_least(cls, many, count):
        """The question whether at least so many bits are 1."""
        check_count(many)
        check_count(count, many + 1)
        return cls(_table_of([text.count("1") >= count for text in inputs(many)]))

    @classmethod
    def parity(cls, many):
        """The question whether an odd number of bits are 1."""
        return cls(_table_of([text.count("1") & 1 for text in inputs(many)]))

    @classmethod
    def of(cls, many, yes):
        """The question with the yes inputs of a list."""
        check_count(many)
        for text in yes:
            check_input_of(text, many)
        return cls(_table_of([text in yes for text in inputs(many)]))

    def _taken_from(self, texts):
        """The question that answers its inputs, in ascending order, as this one answers these texts."""
        return Question("".join([self._table[_place(text)] for text in texts]))


def _is_table(value):
    return isinstance(value, str) and len(value) in LENGTHS and all([answer in "01" for answer in value])


def _table_of(answers):
    return "".join(["1" if answer else "0" for answer in answers])


def _place(text):
    """The index of an input in the ascending list of all inputs."""
    # The 0 in front keeps the input without positions a number.
    return int("0" + text, 2)


def _counted(first, second, wanted):
    """The question that answers 1 where a wanted number of two questions do."""
    if first.many != second.many:
        raise UnlikeSizes(first.many, second.many)
    return Question(_table_of([int(one) + int(two) in wanted for one, two in zip(first.table, second.table)]))
