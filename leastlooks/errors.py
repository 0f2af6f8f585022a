"""The errors of this package; each keeps the very values that it is created with."""


class LooksError(ValueError):
    """The class directly above all errors of this package."""


class BadInput(LooksError):
    """A value is not an input, or not one of the right length."""

    def __init__(self, given):
        self.given = given


class BadPattern(LooksError):
    """A value is not a pattern, or not one of the right length or kind."""

    def __init__(self, given):
        self.given = given


class BadTable(LooksError):
    """A value is not the table of a question."""

    def __init__(self, given):
        self.given = given


class BadCount(LooksError):
    """A value is not an integer within the limits of a count."""

    def __init__(self, given):
        self.given = given


class BadPosition(LooksError):
    """A value is not a position."""

    def __init__(self, given):
        self.given = given


class BadBit(LooksError):
    """A value is not the integer 0 or 1, or an answer is not the wanted one."""

    def __init__(self, given):
        self.given = given


class BadBlock(LooksError):
    """A value is not a list of different positions."""

    def __init__(self, given):
        self.given = given


class BadOrder(LooksError):
    """A value is not a list of all positions, each once."""

    def __init__(self, given):
        self.given = given


class UnlikeSizes(LooksError):
    """Two numbers that must be the same differ."""

    def __init__(self, first, second):
        self.first = first
        self.second = second


class TooMany(LooksError):
    """There are more positions than a call can take or give."""

    def __init__(self, count):
        self.count = count


class BadFormula(LooksError):
    """A text is not a formula, because of what stands at an index."""

    def __init__(self, at):
        self.at = at


class BadSum(LooksError):
    """A value is not a dict of integers by their blocks."""

    def __init__(self, given):
        self.given = given


class NotAnswers(LooksError):
    """A sum has a worth other than 0 and 1 at an input."""

    def __init__(self, text):
        self.text = text


class BadTree(LooksError):
    """A value is not a tree with the right positions."""

    def __init__(self, given):
        self.given = given


class BadText(LooksError):
    """A text is not the text of a tree, because of what stands at an index."""

    def __init__(self, at):
        self.at = at


class BadPrices(LooksError):
    """A value is not a list of prices."""

    def __init__(self, given):
        self.given = given


class BadChances(LooksError):
    """A value is not a list of weights."""

    def __init__(self, given):
        self.given = given


class BadMixture(LooksError):
    """A value is not a mixture for the question."""

    def __init__(self, given):
        self.given = given


class BadTold(LooksError):
    """A value is not a list of told bits."""

    def __init__(self, given):
        self.given = given


class BadFact(LooksError):
    """A value is not a fact."""

    def __init__(self, given):
        self.given = given


class BadNodes(LooksError):
    """A value is not a number of nodes of a web."""

    def __init__(self, given):
        self.given = given


class Looked(LooksError):
    """A position has been looked at already."""

    def __init__(self, position):
        self.position = position


class NotSettled(LooksError):
    """A pattern does not settle the question."""

    def __init__(self, pattern):
        self.pattern = pattern


class NoneLeft(LooksError):
    """No input is open."""


class NothingToUndo(LooksError):
    """There is nothing that can be taken back."""


class NothingToRedo(LooksError):
    """There is nothing that can be made again."""
