"""Points 2, 3, 5, 7 and 41 to 45."""

import unittest

from leastlooks.errors import BadBit, BadCount, BadInput, BadPattern
from leastlooks.questions import Question
from leastlooks.settling import (
    hardest_inputs, is_cover, lean_patterns, least_settling, narrow_cover, part_ways, settling_numbers, settling_size)
from tests import plain
from tests.plain import EVERY, FEW, MORE, SIX, settled, size, sizes
from tests.samples import ANY, answers, fits, raised, same, words
from tests.test_patterns import NO_BIT

ALL = EVERY + MORE + SIX
NO_WIDTH = [None, True, False, -1, 7, 8, 10 ** 39, "0", "", [0], (1,), {}]


def no_inputs(many):
    """Values that are no inputs of so many positions."""
    right = words("01", many)
    others = ["0" * (many + 1), "1" * (many - 1) if many else "-", "-" * many, "0" * 7, ["0"] * many, ("1",) * many]
    others += ["2" + "0" * (many - 1), "0" * many + " "]
    return [value for value in ANY + others if not (isinstance(value, str) and value in right)]


def no_patterns(many):
    """Values that are no patterns of so many positions."""
    return [value for value in no_inputs(many) if not (isinstance(value, str) and value in words("-01", many))]


def covers(table, answer, value):
    """Point 44, for a list of settling patterns."""
    every = answers(table)
    return all(any(fits(text, pattern) for pattern in value) for text in every if every[text] == answer)


class Sizes(unittest.TestCase):
    """Point 41."""

    def test_against_all_patterns(self):
        for table in ALL:
            question = Question(table)
            for text in answers(table) if len(table) < 64 else words("01", 6)[::7]:
                least = sizes(table)[text]
                self.assertTrue(same(settling_size(question, text), least))
                wanted = [pattern for pattern, answer in settled(table).items()
                          if answer is not None and size(pattern) == least and fits(text, pattern)]
                self.assertTrue(same(least_settling(question, text), sorted(wanted)))

    def test_by_name_and_without_positions(self):
        self.assertEqual(settling_size(text="00", question=Question("0111")), 2)
        self.assertEqual(least_settling(text="11", question=Question("0111")), ["-1", "1-"])
        for table in ("0", "1"):
            self.assertEqual([settling_size(Question(table), ""), least_settling(Question(table), "")], [0, [""]])

    def test_bad_inputs(self):
        for many in (0, 1, 3, 6):
            question = Question("01" * (2 ** many // 2) or "0")
            for deed in (settling_size, least_settling):
                for value in no_inputs(many):
                    error, kept = raised(deed, question, value)
                    self.assertIs(error, BadInput)
                    self.assertIs(kept[0], value)

    def test_a_returned_list_is_new(self):
        question = Question("0111")
        for deed, given in ((least_settling, "11"), (lean_patterns, 1), (hardest_inputs, 0), (narrow_cover, 1)):
            before = list(deed(question, given))
            deed(question, given).clear()
            self.assertEqual(deed(question, given), before)


class Lean(unittest.TestCase):
    """Point 42."""

    def test_against_all_patterns(self):
        for table in ALL:
            for answer in (0, 1):
                wanted = []
                for pattern, found in settled(table).items():
                    wider = [plain.fixed(pattern, k, "-") for k in range(len(pattern)) if pattern[k] != "-"]
                    if found == answer and all(settled(table)[one] is None for one in wider):
                        wanted.append(pattern)
                self.assertTrue(same(lean_patterns(Question(table), answer), sorted(wanted)))

    def test_constant_questions(self):
        for many in range(7):
            question = Question.constant(many, 1)
            self.assertEqual([lean_patterns(question, 1), lean_patterns(answer=0, question=question)],
                             [["-" * many], []])

    def test_bad_bits(self):
        for deed in (lean_patterns, hardest_inputs, narrow_cover):
            for answer in NO_BIT:
                error, kept = raised(deed, Question("0110"), answer)
                self.assertIs(error, BadBit)
                self.assertIs(kept[0], answer)


class Numbers(unittest.TestCase):
    """Points 5 and 43."""

    def test_against_all_inputs(self):
        for table in ALL:
            question = Question(table)
            both = plain.by_answer(table, sizes(table))
            self.assertTrue(same(settling_numbers(question), both))
            for answer in (0, 1):
                wanted = [text for text, found in answers(table).items()
                          if found == answer and sizes(table)[text] == both[answer]]
                self.assertTrue(same(hardest_inputs(question, answer), wanted))

    def test_without_an_input_of_the_answer(self):
        for many in range(7):
            for answer in (0, 1):
                question = Question.constant(many, answer)
                self.assertEqual(settling_numbers(question=question), (0, 0))
                self.assertEqual(hardest_inputs(question, 1 - answer), [])
                self.assertEqual(hardest_inputs(answer=answer, question=question), words("01", many))


class Covers(unittest.TestCase):
    """Point 44."""

    def test_the_told_cover(self):
        for table in ALL:
            question = Question(table)
            for answer in (0, 1):
                found = narrow_cover(question, answer)
                width = plain.by_answer(table, sizes(table))[answer]
                self.assertIs(found.__class__, list)
                self.assertTrue(all(settled(table)[one] == answer and size(one) <= width for one in found))
                self.assertTrue(covers(table, answer, found))
                for at in range(len(found)):
                    self.assertFalse(covers(table, answer, found[:at] + found[at + 1:]))
                self.assertIs(is_cover(question, answer, width, found), True)
                self.assertEqual(narrow_cover(answer=answer, question=question), found)

    def test_the_least_width(self):
        for table in ALL:
            for answer in (0, 1):
                width = plain.by_answer(table, sizes(table))[answer]
                for less in range(width + 1):
                    every = [one for one, found in settled(table).items() if found == answer and size(one) <= less]
                    self.assertIs(is_cover(Question(table), answer, less, every), less == width)

    def test_no_inputs_of_the_answer(self):
        for many in range(7):
            question = Question.constant(many, 0)
            self.assertEqual([narrow_cover(question, 1), narrow_cover(question, 0)], [[], ["-" * many]])
            self.assertIs(is_cover(question, 1, 0, []), True)
            self.assertIs(is_cover(question, 1, 6, ()), True)
            self.assertIs(is_cover(question, 0, 6, []), False)
            self.assertIs(is_cover(question, 1, 6, ["-" * many]), False)

    def test_changes_of_a_cover(self):
        for table in FEW + MORE:
            question = Question(table)
            for answer in (0, 1):
                cover = narrow_cover(question, answer)
                width = max([size(one) for one in cover], default=0)
                self.check(question, answer, cover, width)
                self.check(question, answer, tuple(cover[::-1]), width)
                self.check(question, answer, cover + cover, width)
                self.check(question, answer, [one for one, found in settled(table).items() if found == answer], 6)

    def check(self, question, answer, cover, width):
        many = question.many
        self.assertIs(is_cover(question, answer, width, cover), True)
        self.assertIs(is_cover(question, answer, 6, cover), True)
        self.assertIs(is_cover(value=cover, width=width, answer=answer, question=question), True)
        self.assertIs(is_cover(question, 1 - answer, 6, cover), False)
        if any(size(one) == width for one in cover) and width > 0:
            self.assertIs(is_cover(question, answer, width - 1, cover), False)
        kind = cover.__class__
        others = [None, True, 0, "-" * (many + 1), "2" * many + "-", [], ["-" * many], ("-",), {}, question]
        others += [one for one, found in settled(question.table).items() if found != answer][:5]
        others += [""] if many else ["-"]
        for other in others:
            self.assertIs(is_cover(question, answer, 6, kind([*cover, other])), False, (question.table, other))
            self.assertIs(is_cover(question, answer, 6, kind([other, *cover])), False)

    def test_one_pattern_less_or_otherwise(self):
        question = Question("00010111")
        cover = ["-11", "1-1", "11-"]
        for at in range(3):
            self.assertIs(is_cover(question, 1, 6, cover[:at] + cover[at + 1:]), False)
            for other in ("---", "--1", "111", "-00", "x11", "-1", "-11-", "1-0", ["-11"], None):
                self.assertIs(is_cover(question, 1, 6, cover[:at] + [other] + cover[at + 1:]), False)
        self.assertIs(is_cover(question, 1, 2, cover + ["111", "1-1"]), False)
        self.assertIs(is_cover(question, 1, 3, cover + ["111", "1-1"]), True)
        self.assertIs(is_cover(question, 1, 2, cover + ["1-1"]), True)

    def test_values_that_are_no_list(self):
        for value in ANY + ["-11", "11", {"-11": 1, "1-1": 1, "11-": 1}, {"-1": 0, "1-": 0}]:
            if value not in ([], ()):
                self.assertIs(is_cover(Question("0111"), 1, 6, value), False)
        for value in ANY:
            self.assertIs(is_cover(Question("0000"), 1, 6, value), isinstance(value, (list, tuple)) and len(value) == 0)

    def test_widths(self):
        question = Question("01")
        for width in range(7):
            self.assertIs(is_cover(question, 1, width, ["1"]), width > 0)
        for width in NO_WIDTH:
            for value in (["1"], None, []):
                error, kept = raised(is_cover, question, 1, width, value)
                self.assertIs(error, BadCount)
                self.assertIs(kept[0], width)

    def test_bad_bits_come_first(self):
        for answer in NO_BIT:
            for width in [1] + NO_WIDTH:
                error, kept = raised(is_cover, Question("01"), answer, width, None)
                self.assertIs(error, BadBit)
                self.assertIs(kept[0], answer)


class Ways(unittest.TestCase):
    """Point 45, and point 6."""

    def check(self, table, first, second):
        one, two = settled(table)[first], settled(table)[second]
        found = raised(part_ways, Question(table), first, second)
        if one is None:
            self.assertEqual(found, (BadPattern, (first,)))
        elif two is None:
            self.assertEqual(found, (BadPattern, (second,)))
        elif one == two:
            self.assertEqual(found, (BadBit, (two,)))
            self.assertIs(found[1][0].__class__, int)
        else:
            wanted = [k for k in range(len(first)) if {first[k], second[k]} == {"0", "1"}]
            self.assertTrue(same(part_ways(Question(table), first, second), wanted[0]))

    def test_all_pairs(self):
        for table in FEW:
            for first in settled(table):
                for second in settled(table):
                    self.check(table, first, second)

    def test_some_pairs_of_many_positions(self):
        for table in MORE + SIX:
            every = [one for one, answer in settled(table).items() if answer is not None][::29]
            for first in every + ["-" * plain.many_of(table)]:
                for second in every[::-1] + ["-" * plain.many_of(table)]:
                    self.check(table, first, second)

    def test_values_that_are_no_patterns(self):
        question = Question("00010111")
        for value in no_patterns(3) + ["---", "1--"]:
            for first, second, wrong in (("00-", value, value), (value, "00-", value), (value, None, value)):
                error, kept = raised(part_ways, question, first, second)
                self.assertIs(error, BadPattern)
                self.assertIs(kept[0], wrong)
        self.assertEqual(part_ways(second="-11", first="0-0", question=question), 2)
