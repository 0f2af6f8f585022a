"""Patterns that settle a question."""

from leastlooks.checks import check_bit, check_count
from leastlooks.errors import BadBit, BadPattern
from leastlooks.patterns import (
    branches, check_input_of, differ, fitted_by, fitting, is_pattern, known, patterns, size, without)


def settling_size(question, text):
    """The least size of a settling pattern that an input fits."""
    check_input_of(text, question.many)
    least, _ = _least(settled_answers(question), text)
    return least


def least_settling(question, text):
    """The ascending list of the settling patterns of the least size that an input fits."""
    check_input_of(text, question.many)
    answers = settled_answers(question)
    least, _ = _least(answers, text)
    return [one for one in fitted_by(text) if answers[one] is not None and size(one) == least]


def lean_patterns(question, answer):
    """The ascending list of the settling patterns with an answer that can do without no known position."""
    check_bit(answer)
    answers = settled_answers(question)
    return [one for one in patterns(question.many) if answers[one] == answer and _is_lean(answers, one)]


def settling_numbers(question):
    """The tuple of the numbers c0 and c1."""
    return greatest_by_answer(question, _sizes(question))


def hardest_inputs(question, answer):
    """The ascending list of the inputs with an answer at which the least settling size is greatest."""
    check_bit(answer)
    sizes = _sizes(question)
    greatest = greatest_by_answer(question, sizes)[answer]
    return [text for text in answered(question, answer) if sizes[text] == greatest]


def narrow_cover(question, answer):
    """A cover of an answer with patterns of the least sizes, of which none can be left out."""
    check_bit(answer)
    answers = settled_answers(question)
    chosen = []
    times = {}
    for text in answered(question, answer):
        if text not in times:
            _, pattern = _least(answers, text)
            chosen.append(pattern)
            for other in fitting(pattern):
                times[other] = times.get(other, 0) + 1
    return _without_spare(chosen, times)


def is_cover(question, answer, width, value):
    """Whether a value is a cover of an answer, with patterns of at most this size."""
    check_bit(answer)
    check_count(width)
    if not isinstance(value, (list, tuple)):
        return False
    answers = settled_answers(question)
    for item in value:
        if not is_pattern(item) or answers.get(item) != answer or size(item) > width:
            return False
    covered = {text: True for item in value for text in fitting(item)}
    return all([text in covered for text in answered(question, answer)])


def part_ways(question, first, second):
    """The least position at which two settling patterns with different answers differ."""
    one = _answer_of(question, first)
    two = _answer_of(question, second)
    if one == two:
        raise BadBit(two)
    return differ(first, second)[0]


def settled_answers(question):
    """The answer that each pattern has, or None if it does not settle the question, by the patterns."""
    found = {}
    # Behind a pattern, in ascending order, stand all those in which more is known.
    for pattern in reversed(patterns(question.many)):
        if "-" in pattern:
            low, high = branches(pattern, pattern.find("-"))
            found[pattern] = found[low] if found[low] == found[high] else None
        else:
            found[pattern] = question(pattern)
    return found


def answered(question, answer):
    """The ascending list of the inputs with an answer."""
    return list(question) if answer == 1 else list(~question)


def greatest_by_answer(question, numbers):
    """The greatest one of the numbers of all no inputs, and of all yes inputs; 0 if there is none."""
    low, high = [[numbers[text] for text in answered(question, answer)] for answer in (0, 1)]
    return max(low, default=0), max(high, default=0)


def _least(answers, text):
    """The least size of a settling pattern that an input fits, and the first such pattern."""
    return min([(size(one), one) for one in fitted_by(text) if answers[one] is not None])


def _sizes(question):
    """The least size of a settling pattern that an input fits, by the inputs."""
    answers = settled_answers(question)
    return {text: _least(answers, text)[0] for text in answers if "-" not in text}


def _is_lean(answers, pattern):
    """Whether a settling pattern settles the question no longer without any one of its known positions."""
    return all([answers[without(pattern, position)] is None for position in known(pattern)])


def _without_spare(chosen, times):
    """The patterns of a cover that are left when those that can be left out are, one after the other.

    `times` tells how many of the patterns each input fits.
    """
    kept = []
    for pattern in chosen:
        texts = fitting(pattern)
        if min([times[text] for text in texts]) > 1:
            for text in texts:
                times[text] -= 1
        else:
            kept.append(pattern)
    return kept


def _answer_of(question, pattern):
    """The answer of a settling pattern; BadPattern for any other value."""
    answer = question.settled(pattern)
    if answer is None:
        raise BadPattern(pattern)
    return answer
