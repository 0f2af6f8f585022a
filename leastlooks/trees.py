"""Trees of looks: 0, 1 or a tuple (position, low, high) of a position and two trees."""

from leastlooks.checks import MOST, check_count, is_position
from leastlooks.errors import BadInput, BadText, BadTree
from leastlooks.patterns import branches, inputs, is_input
from leastlooks.questions import Question


def is_tree(many, value):
    """Whether a value is a tree with positions below a number."""
    check_count(many)
    return _is_tree(value, many)


def looked(tree, text):
    """The list of the positions that are looked at, in their order, with an input."""
    _check_way(tree, text)
    places, _ = _gone(tree, text)
    return places


def tree_answer(tree, text):
    """The answer at which going along a tree with an input ends."""
    _check_way(tree, text)
    return _end(tree, text)


def depth(tree):
    """The greatest number of looks one above the other."""
    check_tree(tree, MOST)
    return _depth(tree)


def leaves(many, tree):
    """The list of the tuples (pattern, answer) for the ends that some input reaches."""
    check_count(many)
    check_tree(tree, many)
    return _leaves(tree, "-" * many)


def tree_question(many, tree):
    """The question for which a tree is right."""
    check_count(many)
    check_tree(tree, many)
    return Question.of(many, [text for text in inputs(many) if _end(tree, text) == 1])


def wrong_input(question, tree):
    """The first input whose way along a tree ends at another answer than the question's, or None."""
    check_tree(tree, question.many)
    wrong = [text for text in inputs(question.many) if _end(tree, text) != question(text)]
    return wrong[0] if wrong else None


def trimmed(many, tree):
    """A tree without repeated looks, and without looks behind which both branches are equal."""
    check_count(many)
    check_tree(tree, many)
    return _trimmed(tree, "-" * many)


def tree_text(tree):
    """The text of a tree."""
    check_tree(tree, MOST)
    return _text(tree)


def read_tree(text):
    """The tree with a text."""
    tree, end = _read(text, 0)
    if end < len(text):
        raise BadText(end)
    return tree


def check_tree(tree, many):
    """Raise BadTree unless a value is a tree with positions below a number."""
    if not _is_tree(tree, many):
        raise BadTree(tree)


def _is_tree(value, many):
    if not isinstance(value, tuple):
        return is_position(value, 2)
    if len(value) != 3 or not is_position(value[0], many):
        return False
    return _is_tree(value[1], many) and _is_tree(value[2], many)


def _check_way(tree, text):
    if not is_input(text):
        raise BadInput(text)
    check_tree(tree, len(text))


def _gone(tree, text):
    """The list of the positions that are looked at, and the answer at the end."""
    places = []
    while isinstance(tree, tuple):
        position, low, high = tree
        places.append(position)
        tree = low if text[position] == "0" else high
    return places, tree


def _end(tree, text):
    _, answer = _gone(tree, text)
    return answer


def _depth(tree):
    if not isinstance(tree, tuple):
        return 0
    _, low, high = tree
    return 1 + max(_depth(low), _depth(high))


def _leaves(tree, pattern):
    """The leaves of a tree that is reached with these known bits."""
    if not isinstance(tree, tuple):
        return [(pattern, tree)]
    position, low, high = tree
    if pattern[position] != "-":
        return _leaves(low if pattern[position] == "0" else high, pattern)
    lower, higher = branches(pattern, position)
    return _leaves(low, lower) + _leaves(high, higher)


def _trimmed(tree, pattern):
    """What is left of a tree that is reached with these known bits."""
    if not isinstance(tree, tuple):
        return tree
    position, low, high = tree
    if pattern[position] != "-":
        return _trimmed(low if pattern[position] == "0" else high, pattern)
    lower, higher = branches(pattern, position)
    # The branches come first: they may become equal only when nothing in them is spare any more.
    less, more = _trimmed(low, lower), _trimmed(high, higher)
    return less if less == more else (position, less, more)


def _text(tree):
    if not isinstance(tree, tuple):
        return str(tree)
    position, low, high = tree
    return f"({position} {_text(low)} {_text(high)})"


def _read(text, at):
    """The tree whose text begins at an index, and the index behind it."""
    letter = _letter(text, at, "01(")
    if letter != "(":
        return int(letter), at + 1
    position = int(_letter(text, at + 1, "012345"))
    _letter(text, at + 2, " ")
    low, end = _read(text, at + 3)
    _letter(text, end, " ")
    high, end = _read(text, end + 1)
    _letter(text, end, ")")
    return (position, low, high), end + 1


def _letter(text, at, allowed):
    """The character at an index, which the text of a tree goes on with only if it is one of these."""
    if at == len(text) or text[at] not in allowed:
        raise BadText(at)
    return text[at]
