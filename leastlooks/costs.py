"""Least costs when looks have prices and inputs have weights."""

from leastlooks.checks import are_amounts, check_count
from leastlooks.errors import BadChances, BadPrices
from leastlooks.looks import is_paper, least_cost, least_paper, least_tree
from leastlooks.patterns import branches, inputs, patterns
from leastlooks.trees import check_tree, looked


def worst_cost(question, *, prices=None):
    """The least worst cost of a tree that is right for a question."""
    return least_cost(question, _worst_rule(question.many, prices))


def worst_tree(question, *, prices=None):
    """A right tree with the least worst cost."""
    return least_tree(question, _worst_rule(question.many, prices))


def worst_paper(question, *, prices=None):
    """A worst paper for the least worst cost."""
    return least_paper(question, _worst_rule(question.many, prices))


def is_worst_paper(question, value, least, *, prices=None):
    """Whether a value is a worst paper for at least some amount."""
    return is_paper(question, value, least, _worst_rule(question.many, prices))


def total_cost(question, *, prices=None, weights=None):
    """The least total cost of a tree that is right for a question."""
    return least_cost(question, _total_rule(question.many, prices, weights))


def total_tree(question, *, prices=None, weights=None):
    """A right tree with the least total cost."""
    return least_tree(question, _total_rule(question.many, prices, weights))


def total_paper(question, *, prices=None, weights=None):
    """A total paper for the least total cost."""
    return least_paper(question, _total_rule(question.many, prices, weights))


def is_total_paper(question, value, least, *, prices=None, weights=None):
    """Whether a value is a total paper for at least some amount."""
    return is_paper(question, value, least, _total_rule(question.many, prices, weights))


def tree_worst(tree, many, *, prices=None):
    """The worst cost of a tree."""
    check_count(many)
    check_tree(tree, many)
    return max(_costs(tree, many, _prices(prices, many)))


def tree_total(tree, many, *, prices=None, weights=None):
    """The total cost of a tree."""
    check_count(many)
    check_tree(tree, many)
    costs = _costs(tree, many, _prices(prices, many))
    return sum([cost * weight for cost, weight in zip(costs, _weights(weights, many))])


def _worst_rule(many, prices):
    """The rule, as looks.py tells, of the worst costs."""
    fees = _prices(prices, many)
    return lambda pattern, position, low, high: fees[position] + max(low, high)


def _total_rule(many, prices, weights):
    """The rule, as looks.py tells, of the total costs."""
    fees = _prices(prices, many)
    heavy = _pattern_weights(many, _weights(weights, many))
    return lambda pattern, position, low, high: fees[position] * heavy[pattern] + low + high


def _prices(prices, many):
    """The list of the prices."""
    if prices is None:
        return [1] * many
    if not are_amounts(prices, many):
        raise BadPrices(prices)
    return list(prices)


def _weights(weights, many):
    """The list of the weights."""
    count = len(inputs(many))
    if weights is None:
        return [1] * count
    if not are_amounts(weights, count):
        raise BadChances(weights)
    return list(weights)


def _pattern_weights(many, weights):
    """The sum of the weights of the inputs that fit, by the patterns."""
    found = dict(zip(inputs(many), weights))
    # Behind a pattern, in ascending order, stand all those in which more is known.
    for pattern in reversed(patterns(many)):
        if "-" in pattern:
            low, high = branches(pattern, pattern.find("-"))
            found[pattern] = found[low] + found[high]
    return found


def _costs(tree, many, prices):
    """The list of the costs of a tree on all inputs."""
    return [sum([prices[position] for position in looked(tree, text)]) for text in inputs(many)]
