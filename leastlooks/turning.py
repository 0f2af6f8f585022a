"""Positions and blocks of an input whose turning changes the answer."""

from leastlooks.patterns import check_input_of, differ, inputs, part, turned
from leastlooks.settling import answered, greatest_by_answer


def sensitive_positions(question, text):
    """The ascending list of the positions that are sensitive at an input."""
    check_input_of(text, question.many)
    return [at for at in range(question.many) if is_sensitive(question, text, [at])]


def is_sensitive(question, text, block):
    """Whether turning a block changes the answer of an input."""
    check_input_of(text, question.many)
    return question(turned(text, block)) != question(text)


def lean_blocks(question, text):
    """The ascending list of the sensitive blocks at an input within which no smaller one is sensitive."""
    check_input_of(text, question.many)
    found = []
    # The shorter ones come first, so that those within a block are found before it.
    for block in sorted(_sensitive_blocks(question, text), key=len):
        if not any([_is_within(other, block) for other in found]):
            found.append(block)
    return sorted(found)


def apart_blocks(question, text):
    """The first one of the longest lists of disjoint lean blocks at an input."""
    return _longest_apart(lean_blocks(question, text))


def meets_all(question, text, block):
    """Whether a set of positions has one in common with each sensitive block at an input."""
    check_input_of(text, question.many)
    pattern = part(text, block)
    # A sensitive block is one whose turning leads to an input with the other answer.
    return all([differ(pattern, other) != [] for other in _turning_inputs(question, text)])


def sensitivity_numbers(question):
    """The tuple of the numbers s0 and s1."""
    return greatest_by_answer(question, _sensitivities(question))


def block_numbers(question):
    """The tuple of the numbers b0 and b1."""
    return greatest_by_answer(question, {text: len(apart_blocks(question, text)) for text in inputs(question.many)})


def most_sensitive(question):
    """The first input at which the number of sensitive positions is greatest."""
    numbers = _sensitivities(question)
    return max(inputs(question.many), key=lambda text: numbers[text])


def _sensitivities(question):
    """The number of the sensitive positions by the inputs."""
    return {text: len(sensitive_positions(question, text)) for text in inputs(question.many)}


def _turning_inputs(question, text):
    """The ascending list of the inputs with the other answer than an input."""
    return answered(question, 1 - question(text))


def _sensitive_blocks(question, text):
    """The list of all sensitive blocks at an input."""
    return [tuple(differ(text, other)) for other in _turning_inputs(question, text)]


def _is_within(block, other):
    """Whether all positions of a block are in another one."""
    return all([at in other for at in block])


def _longest_apart(blocks):
    """The first one of the longest lists of disjoint blocks of an ascending list."""
    longest = []
    for at, block in enumerate(blocks):
        apart = [other for other in blocks[at + 1:] if not any([place in block for place in other])]
        found = [block] + _longest_apart(apart)
        # Of lists that are alike long, the one found first begins with the lesser block.
        if len(found) > len(longest):
            longest = found
    return longest
