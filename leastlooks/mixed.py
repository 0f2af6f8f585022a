"""Trees that are chosen at random, and fractions of blocks and positions."""

from math import lcm

from leastlooks.checks import are_amounts, is_whole
from leastlooks.costs import total_cost
from leastlooks.errors import BadChances, BadMixture, TooMany
from leastlooks.patterns import branches, inputs, unknown
from leastlooks.settling import settled_answers
from leastlooks.straight import best_sum, fraction
from leastlooks.trees import is_tree, looked, wrong_input
from leastlooks.turning import lean_blocks

# The most positions of a question whose trees are all made.
MOST_MIXED = 3


def mixture_means(question, value):
    """The list of the mean numbers of looks of a mixture at all inputs."""
    if not _is_mixture(question, value):
        raise BadMixture(value)
    whole = sum([weight for weight, _ in value])
    return [fraction(_all_looks(value, text), whole) for text in inputs(question.many)]


def weights_mean(question, weights):
    """The least total cost of a tree that is right for a question, divided by the sum of the weights."""
    if not are_amounts(weights, len(inputs(question.many))) or sum(weights) == 0:
        raise BadChances(weights)
    return fraction(total_cost(question, weights=weights), sum(weights))


def mixed_looks(question):
    """The least number that some mixture keeps to with all its means."""
    return weights_mean(question, hard_weights(question))


def mixture(question):
    """A mixture whose greatest mean is `mixed_looks`."""
    trees, found = _balanced(question)
    if found is None:
        return [(1, tree) for tree in trees]
    _, parts, _ = found
    return [(weight, tree) for weight, tree in zip(_in_proportion(parts), trees) if weight > 0]


def hard_weights(question):
    """Weights whose `weights_mean` is `mixed_looks`."""
    _, found = _balanced(question)
    if found is None:
        return [1] * len(inputs(question.many))
    _, _, prices = found
    return _in_proportion(prices)


def loose_blocks(question, text):
    """The tuple (number, blocks, positions) of the greatest loose blocks and the least loose positions."""
    # Within each sensitive block there is a lean one, which can stand for it on both sides.
    blocks = lean_blocks(question, text)
    rows = [[1 if position in block else 0 for block in blocks] for position in range(question.many)]
    number, parts, prices = best_sum(rows, [1] * question.many, [1] * len(blocks))
    return number, [(block, one) for block, one in zip(blocks, parts) if one[0] > 0], prices


def _is_mixture(question, value):
    if not isinstance(value, (list, tuple)) or len(value) == 0:
        return False
    return all([_is_weighed(question, item) for item in value])


def _is_weighed(question, item):
    """Whether a value is a tuple of a weight and of a right tree."""
    if not isinstance(item, tuple) or len(item) != 2:
        return False
    weight, tree = item
    if not is_whole(weight) or weight < 1:
        return False
    return is_tree(question.many, tree) and wrong_input(question, tree) is None


def _all_looks(value, text):
    """The sum of the numbers of looks at an input, each multiplied by the weight of its tree."""
    return sum([weight * len(looked(tree, text)) for weight, tree in value])


def _balanced(question):
    """The trees that waste no look, and the best sum of their parts.

    The parts are in proportion to the weights of the best mixture, and the prices to the hardest weights of the
    inputs: if all means are to be at most 1, the sum of the parts is greatest when the parts mean the fewest looks.
    A constant question, which needs no looks, has no greatest sum.
    """
    if question.many > MOST_MIXED:
        raise TooMany(question.many)
    texts = inputs(question.many)
    trees = _trees(settled_answers(question), "-" * question.many)
    rows = [[len(looked(tree, text)) for tree in trees] for text in texts]
    return trees, best_sum(rows, [1] * len(texts), [1] * len(trees))


def _trees(answers, pattern):
    """All trees from a pattern on that end where it is settled and look at no position twice."""
    if answers[pattern] is not None:
        return [answers[pattern]]
    found = []
    for position in unknown(pattern):
        lower, higher = branches(pattern, position)
        found.extend([(position, low, high) for low in _trees(answers, lower) for high in _trees(answers, higher)])
    return found


def _in_proportion(fractions):
    """Integers in the same proportion as fractions."""
    shared = 1
    for _, bottom in fractions:
        shared = lcm(shared, bottom)
    return [top * shared // bottom for top, bottom in fractions]
