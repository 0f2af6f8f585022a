"""Points 7 and 113 to 115."""

import copy
import random
import unittest
from fractions import Fraction

from leastlooks.errors import BadChances, BadInput, BadMixture, TooMany
from leastlooks.mixed import hard_weights, loose_blocks, mixed_looks, mixture, mixture_means, weights_mean
from leastlooks.questions import Question
from leastlooks.straight import is_fraction
from tests import plain
from tests.plain import EVERY, FEW, MORE, fixed, many_of, settled, unknown, way
from tests.samples import ANY, answers, raised, same, words
from tests.test_costs import LARGE, no_amounts, plain_costs
from tests.test_settling import no_inputs
from tests.test_straight import pair, whole
from tests.test_trees import no_trees

SMALL = [table for table in EVERY if many_of(table) < 3] + EVERY[22::4] + FEW


def right_tree(source, table, pattern, wasted=0):
    """Some right tree, which may look at known positions and behind what settles."""
    many = many_of(table)
    if wasted < 2 and many > 0 and source.random() < 0.3:
        position = source.randrange(many)
        if pattern[position] != "-":
            rest = right_tree(source, table, pattern, wasted + 1)
            other = source.choice((0, 1, rest))
            return (position, rest, other) if pattern[position] == "0" else (position, other, rest)
    elif settled(table)[pattern] is not None:
        return settled(table)[pattern]
    position = source.choice(unknown(pattern) or range(many))
    if pattern[position] != "-":
        return right_tree(source, table, pattern, 2)
    return (position, *[right_tree(source, table, fixed(pattern, position, bit), wasted) for bit in "01"])


def some_mixture(source, table):
    """One to four weights with trees; trees may stand twice."""
    trees = [right_tree(source, table, "-" * many_of(table)) for _ in range(source.randint(1, 3))]
    return [(source.choice((1, 1, 2, 3, 7, LARGE)), source.choice(trees)) for _ in range(source.randint(1, 4))]


def plain_means(table, value):
    """Point 113."""
    return [Fraction(sum(weight * len(way(tree, text)[0]) for weight, tree in value), sum(one[0] for one in value))
            for text in answers(table)]


def plain_mean(table, weights):
    return Fraction(plain_costs(table, None, list(weights), True)["-" * many_of(table)], sum(weights))


def some_weights(source, many):
    found = [source.choice((0, 0, 1, 2, 5, LARGE)) for _ in range(2 ** many)]
    return found if any(found) else [1] * 2 ** many


class Means(unittest.TestCase):
    """Point 113, the mixtures."""

    def test_against_all_inputs(self):
        source = random.Random(113)
        repeated = 0
        for table in EVERY[::3] + FEW + MORE[::5]:
            for _ in range(4):
                value = some_mixture(source, table)
                self.assertTrue(all(plain.is_right(table, tree) for _, tree in value))
                wanted = [pair(one) for one in plain_means(table, value)]
                repeated += any(len(set(places)) < len(places) for _, tree in value
                                for places in [way(tree, text)[0] for text in answers(table)])
                for given in (value, tuple(value)):
                    self.assertTrue(same(mixture_means(Question(table), given), wanted))
        self.assertGreater(repeated, 50)

    def test_repeated_looks_and_trees_count(self):
        bit, twice = (0, 0, 1), (0, (0, 0, 1), 1)
        question = Question("01")
        self.assertEqual(mixture_means(question, [(1, twice)]), [(2, 1), (1, 1)])
        self.assertEqual(mixture_means(question, [(1, twice), (2, bit)]), [(4, 3), (1, 1)])
        self.assertEqual(mixture_means(question, [(1, bit), (1, twice), (1, bit)]), [(4, 3), (1, 1)])
        self.assertEqual(mixture_means(value=[(LARGE, twice), (LARGE, bit)], question=question), [(3, 2), (1, 1)])
        self.assertEqual(mixture_means(Question("1"), ((5, 1), (1, 1))), [(0, 1)])

    def check_bad(self, question, value):
        error, kept = raised(mixture_means, question, value)
        self.assertIs(error, BadMixture)
        self.assertIs(kept[0], value)

    def test_values_that_are_no_mixture(self):
        for question in (Question("1"), Question("01"), Question("0110")):
            for value in ANY + [[], (), {}, (1, 1), [1, 1], "11", [()], [[]], [[1, 1]], ((1, (0, 0, 1)), None)]:
                self.check_bad(question, value)

    def test_wrong_items(self):
        question = Question("0110")
        tree = (0, (1, 0, 1), (1, 1, 0))
        self.assertIs(raised(mixture_means, question, [(1, tree), (2, tree)]), None)
        wrong = [(weight, tree) for weight in (0, True, False, None, -1, -LARGE, "1", "", [1], (1,), {}, tree)]
        wrong += [(1, one) for one in no_trees(2)]
        wrong += [(1, 0), (1, 1), (1, (0, 0, 1)), (1, (0, (1, 1, 0), (1, 0, 1))), (1, (0, (1, 0, 1), (1, 1, 1)))]
        wrong += [[1, tree], (1, list(tree)), (1,), (1, tree, tree), (tree, 1), (), None, True, 1, tree, "11", {1: tree},
                  {}, question]
        for one in wrong:
            for value in ([one], (one,), [(1, tree), one], [one, (1, tree)], [(1, tree), (1, tree), one, (1, tree)]):
                self.check_bad(question, value)

    def test_what_is_passed_stays_and_what_is_returned_is_new(self):
        value = [(2, (0, 0, 1)), (1, (0, (0, 0, 1), 1))]
        found = mixture_means(Question("01"), value)
        found.clear()
        self.assertEqual(value, [(2, (0, 0, 1)), (1, (0, (0, 0, 1), 1))])
        self.assertEqual(mixture_means(Question("01"), value), [(4, 3), (1, 1)])


class Weights(unittest.TestCase):
    """Point 113, the weights."""

    def test_against_the_least_costs(self):
        source = random.Random(1130)
        for table in EVERY[::3] + FEW + MORE[::4]:
            for _ in range(3):
                weights = some_weights(source, many_of(table))
                wanted = pair(plain_mean(table, weights))
                self.assertTrue(same(weights_mean(Question(table), weights), wanted))
                self.assertTrue(same(weights_mean(weights=tuple(weights), question=Question(table)), wanted))

    def test_single_inputs(self):
        for table in FEW + MORE[::4]:
            for at, text in enumerate(answers(table)):
                weights = [0] * len(table)
                weights[at] = LARGE
                self.assertEqual(weights_mean(Question(table), weights), (plain.sizes(table)[text], 1))

    def test_bad_chances(self):
        for many in (0, 1, 2, 3, 6):
            count = 2 ** many
            question = Question.parity(many)
            wrong = no_amounts(count) if many else [[], (), [1, 1], "1", {0: 1}, [None], [True], [-1], 0, 1]
            for value in wrong + [None, [0] * count, (0,) * count]:
                error, kept = raised(weights_mean, question, value)
                self.assertIs(error, BadChances)
                self.assertIs(kept[0], value)


class Least(unittest.TestCase):
    """Point 114."""

    def test_mixture_and_weights_show_the_number(self):
        for table in SMALL:
            question = Question(table)
            number = mixed_looks(question)
            self.assertTrue(is_fraction(number))
            found = mixture(question)
            self.assertIs(found.__class__, list)
            self.assertGreater(len(found), 0)
            for item in found:
                self.assertEqual([item.__class__, len(item)], [tuple, 2])
                self.assertTrue(item[0].__class__ is int and item[0] >= 1)
                self.assertTrue(plain.is_right(table, item[1]))
            self.assertEqual(max(plain_means(table, found)), whole(number))
            weights = hard_weights(question)
            self.assertTrue(weights.__class__ is list and len(weights) == len(table) and any(weights))
            self.assertTrue(all(one.__class__ is int and one >= 0 for one in weights))
            self.assertEqual(plain_mean(table, weights), whole(number))
            self.assertEqual(max(mixture_means(question, found), key=whole), number)
            self.assertEqual(weights_mean(question, weights), number)

    def test_nothing_comes_between(self):
        source = random.Random(114)
        for table in SMALL[::2]:
            number = whole(mixed_looks(Question(table)))
            self.assertLessEqual(number, plain.fewest(table))
            for _ in range(6):
                self.assertGreaterEqual(max(plain_means(table, some_mixture(source, table))), number)
                self.assertLessEqual(plain_mean(table, some_weights(source, many_of(table))), number)

    def test_known_numbers(self):
        self.assertEqual(mixed_looks(question=Question.at_least(3, 2)), (8, 3))
        for many in range(4):
            self.assertEqual(mixed_looks(Question.parity(many)), (many, 1))
            for answer in (0, 1):
                question = Question.constant(many, answer)
                self.assertEqual(mixed_looks(question), (0, 1))
                self.assertEqual(set(mixture_means(question, mixture(question))), {(0, 1)})
                self.assertEqual(weights_mean(question, hard_weights(question)), (0, 1))
        # Some input takes two looks in each right tree.
        self.assertEqual(mixed_looks(Question("0111")), (2, 1))
        self.assertEqual(mixed_looks(Question("01010011")), (2, 1))

    def test_too_many(self):
        for many in (4, 5, 6):
            for question in (Question.parity(many), Question.constant(many, 0)):
                for deed in (mixed_looks, mixture, hard_weights):
                    self.assertEqual(raised(deed, question), (TooMany, (many,)))

    def test_what_is_returned_is_new(self):
        for question in (Question("0110"), Question("1")):
            for deed in (mixture, hard_weights):
                before = copy.deepcopy(deed(question=question))
                deed(question).clear()
                self.assertEqual(deed(question), before)


class Loose(unittest.TestCase):
    """Point 115."""

    def check(self, table, text):
        found = loose_blocks(Question(table), text)
        self.assertEqual([found.__class__, len(found)], [tuple, 3])
        number, blocks, positions = found
        self.assertTrue(is_fraction(number))
        self.assertTrue(blocks.__class__ is list and positions.__class__ is list)
        self.assertEqual(blocks, sorted(blocks))
        every = plain.sensitive(table, text)
        for item in blocks:
            self.assertEqual([item.__class__, len(item)], [tuple, 2])
            self.assertTrue(item[0].__class__ is tuple and item[0] in every)
            self.assertTrue(is_fraction(item[1]) and whole(item[1]) > 0)
        self.assertEqual(len({block for block, _ in blocks}), len(blocks))
        self.assertEqual(len(positions), many_of(table))
        for position in range(many_of(table)):
            self.assertTrue(is_fraction(positions[position]) and whole(positions[position]) >= 0)
            self.assertLessEqual(sum(whole(one) for block, one in blocks if position in block), 1)
        for block in every:
            self.assertGreaterEqual(sum(whole(positions[position]) for position in block), 1)
        self.assertEqual(sum(whole(one) for _, one in blocks), whole(number))
        self.assertEqual(sum(whole(one) for one in positions), whole(number))
        self.assertTrue(plain.most_apart(table, text) <= whole(number) <= plain.sizes(table)[text])

    def test_at_each_input(self):
        for table in EVERY + [one for one in MORE if many_of(one) == 4]:
            for text in answers(table):
                self.check(table, text)

    def test_some_of_five_and_six_positions(self):
        for table in [one for one in MORE if many_of(one) == 5][::4] + [Question.at_least(6, 3).table]:
            for text in list(answers(table))[::9]:
                self.check(table, text)

    def test_known_numbers(self):
        two = Question.at_least(3, 2)
        half = (1, 2)
        self.assertEqual(loose_blocks(two, "000"),
                         ((3, 2), [((0, 1), half), ((0, 2), half), ((1, 2), half)], [half, half, half]))
        self.assertEqual(loose_blocks(text="1", question=Question("01")), ((1, 1), [((0,), (1, 1))], [(1, 1)]))
        for many in range(7):
            for answer in (0, 1):
                found = loose_blocks(Question.constant(many, answer), "1" * many)
                self.assertTrue(same(found, ((0, 1), [], [(0, 1)] * many)))

    def test_bad_inputs(self):
        for many in (0, 1, 3, 6):
            for value in no_inputs(many):
                error, kept = raised(loose_blocks, Question.parity(many), value)
                self.assertIs(error, BadInput)
                self.assertIs(kept[0], value)

    def test_what_is_returned_is_new(self):
        question = Question("00010111")
        for text in words("01", 3):
            before = copy.deepcopy(loose_blocks(question, text))
            for rows in loose_blocks(question, text)[1:]:
                rows.clear()
            self.assertEqual(loose_blocks(question, text), before)
