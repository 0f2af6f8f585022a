"""Points 7 and 61 to 64."""

import random
import unittest

from leastlooks.errors import BadBlock, BadCount, BadInput, BadSum, NotAnswers
from leastlooks.questions import Question
from leastlooks.sums import balance, balances, degree, odd_degree, odd_products, products, question_of, worth
from tests import plain
from tests.plain import EVERY, FEW, MORE, SIX, blocks
from tests.samples import ANY, answers, raised, same, words
from tests.test_patterns import no_blocks
from tests.test_questions import NO_COUNT
from tests.test_settling import no_inputs

ALL = EVERY + MORE + SIX
LARGE = 10 ** 39


def plain_worth(numbers, text):
    return sum(number for block, number in numbers.items() if all(text[k] == "1" for k in block))


def plain_balance(table, block):
    counts = [0, 0]
    for text, answer in answers(table).items():
        counts[(answer - len([k for k in block if text[k] == "1"])) % 2] += 1
    return counts[0] - counts[1]


def no_sums(many):
    """Values that are no sums of so many positions, 2 or more."""
    found = [{key: 1} for key in (
        0, 1, None, True, "", "0", "01", (many,), (-1,), (0, 0), (1, 0), (0, many), (True,), (False,), (0, True),
        (False, 1), ("0",), (None,), ((0,),), ((0, 1),), (0, (1,)), (0, LARGE))]
    found += [{(0,): number} for number in (True, False, None, "1", "", [1], (1,), {}, [], Question("01"))]
    found += [{(): 1, (0,): True}, {(): 1, (0, 1): 1, (1, 0): 1}, {"": 0}, {(0,): 0, (1,): "0"}]
    found += [value for value in ANY if value != {}] + [[((0,), 1)], ((), 1), [], (), set()]
    return found


class Products(unittest.TestCase):
    """Point 61."""

    def test_the_sums_are_the_answers(self):
        for table in ALL:
            found = products(Question(table))
            for text, answer in answers(table).items():
                self.assertEqual(plain_worth(found, text), answer)

    def test_the_very_dict(self):
        for table in ALL:
            found = products(Question(table))
            wanted = plain.products(table)
            self.assertTrue(same(list(found.items()), list(wanted.items())))
            self.assertEqual(list(found), sorted(found))
            self.assertNotIn(0, found.values())
            self.assertTrue(same(degree(Question(table)), max([len(block) for block in wanted], default=0)))

    def test_constant_questions(self):
        for many in range(7):
            none, one = Question.constant(many, 0), Question.constant(many, 1)
            self.assertEqual([products(none), products(question=one)], [{}, {(): 1}])
            self.assertTrue(same([degree(none), degree(question=one)], [0, 0]))

    def test_at_least_and_parity(self):
        self.assertEqual(products(Question.at_least(2, 1)), {(0,): 1, (0, 1): -1, (1,): 1})
        for many in range(1, 7):
            self.assertEqual(products(Question.at_least(many, many)), {tuple(range(many)): 1})
            self.assertEqual(products(Question.parity(many)),
                             {block: -(-2) ** len(block) // 2 for block in blocks(many) if block})
            self.assertEqual(degree(Question.bit_at(many, many - 1)), 1)

    def test_returned_values_are_new(self):
        for deed in (products, balances, odd_products):
            before = deed(Question("0111"))
            deed(Question("0111")).clear()
            self.assertEqual(deed(Question("0111")), before)


class Worth(unittest.TestCase):
    """Point 62."""

    def test_against_each_input(self):
        source = random.Random(62)
        for many in range(7):
            for _ in range(4):
                chosen = source.sample(blocks(many), source.randint(0, 2 ** many))
                numbers = {block: source.choice((0, 1, -1, 5, -LARGE, LARGE + 7)) for block in chosen}
                before = dict(numbers)
                for text in words("01", many):
                    self.assertTrue(same(worth(numbers, text), plain_worth(numbers, text)))
                self.assertEqual(list(numbers.items()), list(before.items()))

    def test_the_empty_key_and_names(self):
        self.assertEqual(worth({}, ""), 0)
        self.assertEqual(worth({(): -LARGE}, ""), -LARGE)
        self.assertEqual(worth(text="01", products={(): 3, (0,): 10, (1,): -5}), -2)

    def test_bad_sums(self):
        for many in (2, 3, 6):
            for value in no_sums(many):
                for deed, given in ((worth, (value, "1" * many)), (worth, (value, "0" * many)),
                                    (question_of, (many, value))):
                    error, kept = raised(deed, *given)
                    self.assertIs(error, BadSum, value)
                    self.assertIs(kept[0], value)
        self.assertEqual(raised(worth, {(0,): 1}, ""), (BadSum, ({(0,): 1},)))
        self.assertEqual(raised(question_of, 0, {(0,): 1}), (BadSum, ({(0,): 1},)))
        self.assertEqual(raised(worth, {(1,): 1}, "1"), (BadSum, ({(1,): 1},)))

    def test_bad_inputs_come_first(self):
        every = [word for many in range(7) for word in words("01", many)]
        for value in no_inputs(3):
            if not (isinstance(value, str) and value in every):
                for numbers in ({}, {(0,): True}, None):
                    error, kept = raised(worth, numbers, value)
                    self.assertIs(error, BadInput)
                    self.assertIs(kept[0], value)

    def test_the_question_of_its_products(self):
        for table in ALL:
            question = Question(table)
            self.assertEqual(question_of(question.many, products(question)), question)
            mixed = dict(reversed(list(products(question).items())))
            self.assertEqual(question_of(products=mixed, many=question.many), question)
        self.assertEqual(question_of(1, {(0,): 0, (): 1}).table, "11")

    def test_not_answers(self):
        source = random.Random(620)
        for many in range(7):
            for number in (2, -1, LARGE, -LARGE):
                self.assertEqual(raised(question_of, many, {(): number}), (NotAnswers, ("0" * many,)))
            for _ in range(20):
                numbers = {block: source.choice((1, 1, -1, 2)) for block in source.sample(blocks(many), 1 + many // 2)}
                wrong = [text for text in words("01", many) if plain_worth(numbers, text) not in (0, 1)]
                found = raised(question_of, many, numbers)
                self.assertEqual(found, (NotAnswers, (wrong[0],)) if wrong else None)

    def test_bad_counts_come_first(self):
        for many in NO_COUNT:
            for numbers in ({}, {(): 2}, None, {0: 0}):
                error, kept = raised(question_of, many, numbers)
                self.assertIs(error, BadCount)
                self.assertIs(kept[0], many)


class Odd(unittest.TestCase):
    """Point 63."""

    def test_against_each_input(self):
        for table in ALL:
            found = odd_products(Question(table))
            self.assertTrue(same(found, sorted(found)))
            self.assertEqual(len(set(found)), len(found))
            self.assertLessEqual(set(found), set(blocks(plain.many_of(table))))
            for text, answer in answers(table).items():
                self.assertEqual(len([one for one in found if all(text[k] == "1" for k in one)]) % 2, answer)

    def test_only_one_list_for_each_question(self):
        for many in range(4):
            every = [table for table in EVERY if plain.many_of(table) == many]
            self.assertEqual(len({tuple(odd_products(Question(table))) for table in every}), len(every))

    def test_the_degree(self):
        for table in ALL:
            found = odd_degree(Question(table))
            self.assertTrue(same(found, max([len(one) for one in odd_products(Question(table))], default=0)))
            self.assertLessEqual(found, plain.degree(table))
        for many in range(7):
            self.assertEqual(odd_products(question=Question.parity(many)), [(k,) for k in range(many)])
            self.assertEqual(odd_degree(question=Question.parity(many)), 1 if many else 0)
            self.assertEqual([odd_degree(Question.constant(many, answer)) for answer in (0, 1)], [0, 0])


class Balances(unittest.TestCase):
    """Point 64."""

    def test_by_counting(self):
        for table in FEW + MORE + SIX:
            question = Question(table)
            every = {block: plain_balance(table, block) for block in blocks(question.many)}
            for block in list(every)[::1 if question.many < 5 else 5]:
                self.assertTrue(same(balance(question, block), every[block]))
                self.assertEqual(balance(block=list(block[::-1]), question=question), every[block])
            wanted = [(block, number) for block, number in every.items() if number != 0]
            self.assertTrue(same(list(balances(question).items()), wanted))

    def test_the_main_statement(self):
        for table in ALL:
            found = balances(question=Question(table))
            self.assertEqual(sum(number ** 2 for number in found.values()), len(table) ** 2)
            self.assertEqual(max(len(block) for block in found), plain.degree(table))

    def test_bad_blocks(self):
        for many in (2, 3, 6):
            for block in no_blocks(many):
                error, kept = raised(balance, Question.parity(many), block)
                self.assertIs(error, BadBlock)
                self.assertIs(kept[0], block)
        self.assertEqual(raised(balance, Question("0"), [0]), (BadBlock, ([0],)))
        self.assertEqual([balance(Question("0"), []), balance(Question("1"), ())], [1, -1])

    def test_a_passed_block_stays(self):
        block = [2, 0]
        balance(Question("00010111"), block)
        self.assertEqual(block, [2, 0])
