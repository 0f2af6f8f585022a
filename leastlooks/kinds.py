"""Questions that some change of the order, of bits and of the answer makes the same."""

from leastlooks.checks import check_bit, check_block, check_count, check_order
from leastlooks.errors import TooMany, UnlikeSizes
from leastlooks.patterns import all_blocks, all_orders, inputs
from leastlooks.questions import Question

# The most positions of a question whose changes are all made, and of questions that are all listed.
MOST_CHANGED = 4
MOST_LISTED = 3


def changed(question, order, block, flip):
    """The question with a block turned, then reordered, and with the other answers if `flip` is 1."""
    check_order(order, question.many)
    check_block(block, question.many)
    check_bit(flip)
    found = question.turned_at(block).reordered(order)
    return ~found if flip == 1 else found


def change_to(first, second):
    """The first change (order, block, flip) that leads from a question to another one, or None."""
    if first.many != second.many:
        raise UnlikeSizes(first.many, second.many)
    _check_changed(first)
    for order, block, flip in _changes(first.many):
        if changed(first, order, block, flip) == second:
            return tuple(order), block, flip
    return None


def kind_of(question):
    """The question with the least table of all questions of the same kind."""
    return Question(_same_kind(question)[0])


def kind_size(question):
    """The number of all questions of the same kind."""
    return len(_same_kind(question))


def kinds(many):
    """The list of all questions that have the least table of their kind, in ascending order of the tables."""
    check_count(many, MOST_LISTED)
    found = []
    seen = {}
    for table in all_tables(many):
        if table not in seen:
            found.append(Question(table))
            for other in _same_kind(Question(table)):
                seen[other] = True
    return found


def all_tables(many):
    """The ascending list of the tables of all questions with so many positions, which are few."""
    tables = [""]
    for _ in inputs(many):
        tables = [table + answer for table in tables for answer in "01"]
    return tables


def _check_changed(question):
    if question.many > MOST_CHANGED:
        raise TooMany(question.many)


def _changes(many):
    """The ascending list of all changes (order, block, flip)."""
    blocks = all_blocks(many)
    return [(order, block, flip) for order in all_orders(many) for block in blocks for flip in (0, 1)]


def _same_kind(question):
    """The ascending list of the tables of all questions of the same kind."""
    _check_changed(question)
    turned = [question.turned_at(block) for block in all_blocks(question.many)]
    found = [one.reordered(order) for one in turned for order in all_orders(question.many)]
    return sorted({one.table for one in found + [~other for other in found]})
