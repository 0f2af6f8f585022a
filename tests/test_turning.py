"""Points 4, 5, 7 and 51 to 54."""

import random
import unittest

from leastlooks.errors import BadBlock, BadInput
from leastlooks.patterns import part
from leastlooks.questions import Question
from leastlooks.turning import (
    apart_blocks, block_numbers, is_sensitive, lean_blocks, meets_all, most_sensitive, sensitive_positions,
    sensitivity_numbers)
from tests import plain
from tests.plain import EVERY, FEW, MORE, SIX, sensitive, settled
from tests.samples import answers, flipped, raised, same, words
from tests.test_patterns import no_blocks
from tests.test_settling import no_inputs

ALL = EVERY + MORE + SIX


def some_inputs(table):
    """All inputs of few positions, and some of many."""
    every = list(answers(table))
    return every if len(every) < 32 else every[::9] + every[-1:]


class Sensitive(unittest.TestCase):
    """Point 51."""

    def test_positions(self):
        for table in ALL:
            for text in some_inputs(table):
                wanted = plain.positions(table, text)
                self.assertTrue(same(sensitive_positions(Question(table), text), wanted))
                for position in range(len(text)):
                    self.assertIs(is_sensitive(Question(table), text, [position]), position in wanted)

    def test_blocks(self):
        source = random.Random(51)
        for table in FEW + MORE + SIX:
            question = Question(table)
            for text in some_inputs(table)[:6]:
                for block in plain.blocks(len(text)):
                    wanted = block in sensitive(table, text)
                    mixed = source.sample(block, len(block))
                    self.assertIs(is_sensitive(question, text, block), wanted)
                    self.assertIs(is_sensitive(question, text, list(block)), wanted)
                    self.assertIs(is_sensitive(question, text, mixed), wanted)
                    self.assertIs(is_sensitive(block=tuple(mixed), text=text, question=question), wanted)

    def test_the_empty_block(self):
        for table in FEW:
            for text in answers(table):
                self.assertIs(is_sensitive(Question(table), text, []), False)
                self.assertIs(is_sensitive(Question(table), text, ()), False)

    def test_bad_inputs_and_then_bad_blocks(self):
        for many in (2, 3, 6):
            question = Question.parity(many)
            for deed in (is_sensitive, meets_all):
                for block in no_blocks(many):
                    error, kept = raised(deed, question, "0" * many, block)
                    self.assertIs(error, BadBlock)
                    self.assertIs(kept[0], block)
                    self.assertEqual(raised(deed, question, "0" * (many - 1), block), (BadInput, ("0" * (many - 1),)))

    def test_bad_inputs(self):
        for many in (0, 1, 3, 6):
            question = Question("01" * (2 ** many // 2) or "0")
            for value in no_inputs(many):
                for deed, others in ((sensitive_positions, ()), (lean_blocks, ()), (apart_blocks, ()),
                                     (is_sensitive, ([],)), (is_sensitive, (None,)), (meets_all, ([9],))):
                    error, kept = raised(deed, question, value, *others)
                    self.assertIs(error, BadInput)
                    self.assertIs(kept[0], value)

    def test_what_is_passed_stays(self):
        block = [2, 0]
        is_sensitive(Question("00010111"), "000", block)
        meets_all(Question("00010111"), "000", block)
        self.assertEqual(block, [2, 0])

    def test_a_returned_list_is_new(self):
        question = Question("00010111")
        for deed in (sensitive_positions, lean_blocks, apart_blocks):
            before = list(deed(text="001", question=question))
            deed(question, "001").clear()
            self.assertEqual(deed(question, "001"), before)


class Blocks(unittest.TestCase):
    """Point 52."""

    def test_lean_blocks(self):
        for table in ALL:
            for text in some_inputs(table):
                wanted = plain.lean(table, text)
                self.assertTrue(same(lean_blocks(Question(table), text), sorted(wanted)))

    def test_apart_blocks(self):
        for table in ALL:
            for text in some_inputs(table):
                lists = plain.apart_lists(sorted(plain.lean(table, text)))
                longest = max(len(found) for found in lists)
                wanted = min(found for found in lists if len(found) == longest)
                self.assertTrue(same(apart_blocks(Question(table), text), wanted), (table, text))

    def test_the_first_one_of_several_lists(self):
        at_least = Question.at_least(6, 2)
        self.assertEqual(apart_blocks(at_least, "000000"), [(0, 1), (2, 3), (4, 5)])
        self.assertEqual(apart_blocks(Question.at_least(5, 2), "00000"), [(0, 1), (2, 3)])
        self.assertEqual(apart_blocks(Question.at_least(6, 3), "000000"), [(0, 1, 2), (3, 4, 5)])

    def test_a_longest_list_without_the_first_block(self):
        ends = Question.of(5, [text for text in words("01", 5) if text[1:3] == "11" or text[3:] == "11" or
                               text[0] + text[2] + text[3] == "111"])
        self.assertEqual(lean_blocks(ends, "00000"), [(0, 2, 3), (1, 2), (3, 4)])
        self.assertEqual(apart_blocks(ends, "00000"), [(1, 2), (3, 4)])

    def test_the_main_statement(self):
        for table in ALL:
            question = Question(table)
            for text in some_inputs(table):
                found = apart_blocks(question, text)
                self.assertEqual(len(found), plain.most_apart(table, text))
                for block in lean_blocks(question, text):
                    self.assertLessEqual(set(block), set(plain.positions(table, flipped(text, block))))
                self.assertEqual(settled(table)[part(text, [k for block in found for k in block])], question(text))


class Meeting(unittest.TestCase):
    """Point 53."""

    def test_against_all_blocks(self):
        for table in FEW + MORE + SIX:
            question = Question(table)
            for text in some_inputs(table)[:5]:
                every = sensitive(table, text)
                for block in plain.blocks(len(text))[::1 if len(text) < 6 else 5]:
                    wanted = all(set(block) & set(other) for other in every)
                    self.assertIs(meets_all(question, text, block), wanted)
                    self.assertIs(meets_all(block=list(block[::-1]), text=text, question=question), wanted)
                    self.assertIs(question.settled(part(text, block)) is not None, wanted)

    def test_no_sensitive_block(self):
        for many in range(7):
            self.assertIs(meets_all(Question.constant(many, 1), "0" * many, []), True)


class Numbers(unittest.TestCase):
    """Points 5 and 54."""

    def test_against_all_inputs(self):
        for table in ALL:
            question = Question(table)
            counts = {text: len(plain.positions(table, text)) for text in answers(table)}
            self.assertTrue(same(sensitivity_numbers(question), plain.by_answer(table, counts)))
            wanted = [text for text in counts if counts[text] == max(counts.values())][0]
            self.assertTrue(same(most_sensitive(question), wanted))

    def test_blocks_against_all_inputs(self):
        for table in EVERY[::2] + FEW + MORE + SIX[::3]:
            apart = {text: plain.most_apart(table, text) for text in answers(table)}
            self.assertTrue(same(block_numbers(Question(table)), plain.by_answer(table, apart)))

    def test_constant_questions(self):
        for many in range(7):
            question = Question.constant(many, many % 2)
            self.assertEqual([sensitivity_numbers(question=question), block_numbers(question=question),
                              most_sensitive(question=question)], [(0, 0), (0, 0), "0" * many])

    def test_the_numbers_of_an_input_bound_each_other(self):
        for table in EVERY[::3] + MORE:
            greatest = max(plain.by_answer(table, {x: len(plain.positions(table, x)) for x in answers(table)}))
            for text in some_inputs(table):
                s, b, c = (len(sensitive_positions(Question(table), text)), len(apart_blocks(Question(table), text)),
                           plain.sizes(table)[text])
                self.assertTrue(s <= b <= c <= b * greatest, (table, text))
