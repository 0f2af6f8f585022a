"""Questions whose bits are the answers of other questions."""

from leastlooks.checks import MOST
from leastlooks.costs import worst_cost, worst_tree
from leastlooks.errors import TooMany, UnlikeSizes
from leastlooks.looks import best_tree, looks
from leastlooks.patterns import inputs
from leastlooks.questions import Question
from leastlooks.sums import degree, products


def inside(outer, inners):
    """The question that answers as the outer one does to the answers of the inner ones."""
    starts = _starts(outer, inners)
    return Question("".join([_answer(outer, inners, starts, text) for text in inputs(starts[-1])]))


def inside_looks(outer, inners):
    """The number D of `inside`, from the numbers D of the inner questions."""
    rest, parts = _open_parts(outer, inners)
    return worst_cost(rest, prices=[looks(inner) for _, inner in parts])


def inside_degree(outer, inners):
    """The number d of `inside`, from the numbers d of the inner questions."""
    rest, parts = _open_parts(outer, inners)
    degrees = [degree(inner) for _, inner in parts]
    return max([sum([degrees[position] for position in block]) for block in products(rest)], default=0)


def inside_tree(outer, inners):
    """A right tree for `inside` with the fewest looks."""
    rest, parts = _open_parts(outer, inners)
    tree = worst_tree(rest, prices=[looks(inner) for _, inner in parts])
    return _unfolded(tree, [(start, best_tree(inner)) for start, inner in parts])


def _starts(outer, inners):
    """The list of the first positions of the inner questions, and at last the number of all positions."""
    if outer.many != len(inners):
        raise UnlikeSizes(outer.many, len(inners))
    starts = [0]
    for inner in inners:
        starts.append(starts[-1] + inner.many)
    if starts[-1] > MOST:
        raise TooMany(starts[-1])
    return starts


def _answer(outer, inners, starts, text):
    """The answer to an input, as a character."""
    bits = [str(inner(text[start:start + inner.many])) for start, inner in zip(starts, inners)]
    return str(outer("".join(bits)))


def _open_parts(outer, inners):
    """The outer question restricted by the answers of the constant inner ones, and what its positions stand for.

    These are the tuples (start, inner) of the other inner questions, with the first positions of each.
    """
    starts = _starts(outer, inners)
    answers = [inner.settled("-" * inner.many) for inner in inners]
    pattern = "".join(["-" if answer is None else str(answer) for answer in answers])
    parts = [(start, inner) for start, inner, answer in zip(starts, inners, answers) if answer is None]
    return outer.restricted(pattern), parts


def _unfolded(tree, parts):
    """The tree in which all looks of an inner tree stand for a look at its position.

    `parts` are the tuples (start, tree) of the inner questions, by the positions.
    """
    if not isinstance(tree, tuple):
        return tree
    position, low, high = tree
    start, looking = parts[position]
    return _joined(looking, start, _unfolded(low, parts), _unfolded(high, parts))


def _joined(tree, start, low, high):
    """An inner tree, with its positions counted from a start on, that goes on with a tree behind each answer."""
    if not isinstance(tree, tuple):
        return high if tree == 1 else low
    position, lower, higher = tree
    return (start + position, _joined(lower, start, low, high), _joined(higher, start, low, high))
