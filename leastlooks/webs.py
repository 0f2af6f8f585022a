"""Questions about webs: the positions are the pairs of some nodes, and the bit 1 is a tie between the two."""

from leastlooks.checks import is_whole
from leastlooks.errors import BadNodes
from leastlooks.patterns import all_orders, inputs, with_bit
from leastlooks.questions import Question


def pairs(nodes):
    """The ascending list of the pairs of so many nodes."""
    if not is_whole(nodes) or nodes not in (2, 3, 4):
        raise BadNodes(nodes)
    return [(first, second) for first in range(nodes) for second in range(first + 1, nodes)]


def is_web_question(question, nodes):
    """Whether a question is about webs of so many nodes, whatever the names of the nodes."""
    orders = _renamings(nodes)
    return question.many == len(pairs(nodes)) and all([question.reordered(order) == question for order in orders])


def connected(nodes):
    """The question whether ties lead from each node to each other one."""
    return _about(nodes, lambda ties: _parts(nodes, ties) == 1)


def has_ring(nodes):
    """The question whether ties lead from some node round to itself."""
    # Without a ring, each tie has made one part out of two.
    return _about(nodes, lambda ties: len(ties) + _parts(nodes, ties) > nodes)


def rising_webs(nodes):
    """All rising questions about webs of so many nodes that are not constant, in ascending order of their tables."""
    texts = inputs(len(pairs(nodes)))
    shapes = _shapes(nodes)
    tables = ["".join([answers[shapes[text]] for text in texts]) for answers in _rising_answers(shapes)]
    for table in sorted(tables):
        if "0" in table and "1" in table:
            yield Question(table)


def _about(nodes, deed):
    """The question that answers 1 where a function of the list of the ties is true."""
    rows = pairs(nodes)
    return Question.of(len(rows), [text for text in inputs(len(rows)) if deed(_ties(rows, text))])


def _ties(rows, text):
    """The pairs at which an input has the bit 1."""
    return [pair for pair, bit in zip(rows, text) if bit == "1"]


def _parts(nodes, ties):
    """The number of the parts of a web that no ties join."""
    names = list(range(nodes))
    for first, second in ties:
        names = [names[first] if name == names[second] else name for name in names]
    return len(set(names))


def _renamings(nodes):
    """The list of the orders of the pairs that the orders of the nodes make."""
    rows = pairs(nodes)
    return [[_place(rows, names[first], names[second]) for first, second in rows] for names in all_orders(nodes)]


def _place(rows, first, second):
    """The index of the pair of two nodes."""
    return rows.index((min(first, second), max(first, second)))


def _shapes(nodes):
    """The first one of the webs that a web becomes if its nodes are renamed, by the inputs."""
    orders = _renamings(nodes)
    texts = inputs(len(pairs(nodes)))
    return {text: min(["".join([text[at] for at in order]) for order in orders]) for text in texts}


def _rising_answers(shapes):
    """The list of all dicts from the shapes to answers in which no tie more leads from 1 to 0."""
    found = [{}]
    rows = sorted(set(list(shapes.values())))
    # Those with more ties come first, so that the answers behind one tie more are there.
    for shape in sorted(rows, key=lambda text: text.count("1"), reverse=True):
        above = [shapes[with_bit(shape, at, 1)] for at, bit in enumerate(shape) if bit == "0"]
        found = [{**answers, shape: bit} for answers in found for bit in "01"
                 if bit == "0" or all([answers[one] == "1" for one in above])]
    return found
