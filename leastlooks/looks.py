"""The fewest looks that make the answer certain.

A rule, in this file, is a function of a pattern, of one of its unknown positions, and of the costs at the two
patterns in which this position has the bit 0 and the bit 1. It tells the cost at the pattern of going on with
a look at the position. A pattern that settles the question costs nothing.
"""

from leastlooks.checks import check_count, is_whole
from leastlooks.patterns import branches, patterns, unknown
from leastlooks.settling import settled_answers


def looks(question):
    """The number D: the least depth of a tree that is right for a question."""
    return least_cost(question, _one_more)


def looks_left(question, pattern):
    """The least depth of a tree that is right for the question about the unknown positions of a pattern."""
    return looks(question.restricted(pattern))


def best_tree(question):
    """The right tree of the least depth that always looks at the least position of those that are best."""
    return least_tree(question, _one_more)


def is_play(question, value, count):
    """Whether a value is a play of a question that shows that at least so many looks are needed."""
    check_count(count)
    return is_paper(question, value, count, _one_more)


def play(question):
    """A play that shows that D looks are needed."""
    return least_paper(question, _one_more)


def needs_all(question):
    """Whether as many looks are needed as there are positions."""
    return looks(question) == question.many


def strategies(question, pattern, *, spare=0):
    """The ascending list of the positions to look at next with at most so many looks more than needed in all."""
    rest = question.restricted(pattern)
    check_count(spare)
    steps = next_steps(rest)
    whole = "-" * rest.many
    most, best = steps[whole]
    if best is None:
        return []
    # The positions of the rest are the unknown ones of the pattern, in the same order.
    costs = [_cost(steps, whole, at, _one_more) for at in range(rest.many)]
    return [position for position, cost in zip(unknown(pattern), costs) if cost <= most + spare]


def next_steps(question):
    """The tuples of the looks that are left and of the least position that is best, by the patterns.

    The position is None for a pattern that settles the question.
    """
    return _best_steps(question, _one_more)


def least_cost(question, rule):
    """The least cost, by a rule, at the pattern without known positions."""
    cost, _ = _best_steps(question, rule)["-" * question.many]
    return cost


def least_tree(question, rule):
    """The tree that always looks at the least position of those that are best by a rule."""
    return _tree_at(question, _best_steps(question, rule), "-" * question.many)


def least_paper(question, rule):
    """The dict of the least costs, by a rule, of the patterns that do not settle a question."""
    steps = _best_steps(question, rule)
    return {pattern: cost for pattern, (cost, best) in steps.items() if best is not None}


def is_paper(question, value, least, rule):
    """Whether a value is a dict that shows that a question costs, by a rule, at least some amount.

    It has an integer from 0 on for patterns, 0 for those that are no keys, and 0 for those that settle the
    question; no look may cost less than the integer if its branches cost as much as theirs.
    """
    if not isinstance(value, dict):
        return False
    answers = settled_answers(question)
    for key in value:
        if key not in answers or not is_whole(value[key]) or value[key] < 0:
            return False
    if value.get("-" * question.many, 0) < least:
        return False
    return all([answers[key] is None and _is_held(value, key, rule) for key in value if value[key] > 0])


def _one_more(pattern, position, low, high):
    """The rule of the looks: each one counts alike."""
    return 1 + max(low, high)


def _best_steps(question, rule):
    """The tuples of the least cost and of the least position that has it, by the patterns.

    The position is None for a pattern that settles the question.
    """
    answers = settled_answers(question)
    steps = {}
    # Behind a pattern, in ascending order, stand all those in which more is known.
    for pattern in reversed(patterns(question.many)):
        if answers[pattern] is None:
            steps[pattern] = min([(_cost(steps, pattern, at, rule), at) for at in unknown(pattern)])
        else:
            steps[pattern] = (0, None)
    return steps


def _cost(steps, pattern, position, rule):
    """The cost at a pattern of going on with a look at a position."""
    low, high = branches(pattern, position)
    return rule(pattern, position, steps[low][0], steps[high][0])


def _tree_at(question, steps, pattern):
    """The tree of the best steps from a pattern on."""
    _, position = steps[pattern]
    if position is None:
        # All inputs that fit a settling pattern have its answer.
        return question(pattern.replace("-", "0"))
    low, high = branches(pattern, position)
    return (position, _tree_at(question, steps, low), _tree_at(question, steps, high))


def _is_held(value, pattern, rule):
    """Whether no look at a pattern costs less than its integer."""
    for position in unknown(pattern):
        low, high = branches(pattern, position)
        if value[pattern] > rule(pattern, position, value.get(low, 0), value.get(high, 0)):
            return False
    return True
