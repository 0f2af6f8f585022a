"""Points 7 and 101 to 104."""

import random
import unittest

from leastlooks.costs import (
    is_total_paper, is_worst_paper, total_cost, total_paper, total_tree, tree_total, tree_worst, worst_cost,
    worst_paper, worst_tree)
from leastlooks.errors import BadChances, BadCount, BadPrices, BadTree
from leastlooks.looks import looks
from leastlooks.questions import Question
from tests import plain
from tests.plain import EVERY, FEW, MORE, SIX, fixed, many_of, settled, unknown
from tests.samples import ANY, fits, raised, same, words
from tests.test_questions import NO_COUNT
from tests.test_trees import TREES, no_trees

LARGE = 10 ** 39
TABLES = FEW + MORE[::3] + SIX[::4]


def no_amounts(count):
    """Values that are not None and no lists of so many, 1 or more, integers of at least 0."""
    right = [1] * count
    found = [right[1:], right + [1], right + right + [0] * 64, (1,) * (count + 1), {}, {0: 1}, "1" * count, "", 0, 1,
             count, True, False, -1, Question("01"), [right], [None] * count, dict.fromkeys(range(count), 1)]
    for wrong in (True, False, None, -1, -LARGE, "1", "", [1], (1,), {}, Question("0")):
        found += [[wrong] + right[1:], right[1:] + [wrong], tuple(right[1:] + [wrong])]
    return found + [value for value in ANY if value is not None and not (
        isinstance(value, (list, tuple)) and len(value) == count)]


def some_prices(many):
    source = random.Random(101 + many)
    return [None, [0] * many, [1] * many, tuple(range(many)), [source.randrange(5) for _ in range(many)],
            [source.choice((0, LARGE, LARGE - 1)) for _ in range(many)]]


def some_weights(many):
    source = random.Random(202 + many)
    count = 2 ** many
    return [None, [0] * count, [1] * count, tuple(range(count)), [source.randrange(3) for _ in range(count)],
            [source.choice((0, LARGE, 1)) for _ in range(count)]]


def some_pairs(many):
    """Prices and weights, each alone and both."""
    prices, weights = some_prices(many), some_weights(many)
    return list(zip(prices, weights)) + [(prices[4], None), (None, weights[4]), (prices[5], weights[3])]


def plain_costs(table, prices, weights=None, total=False):
    """The least costs of all patterns, by a search over all ways to go on."""
    many = many_of(table)
    prices = [1] * many if prices is None else prices
    weights = dict(zip(words("01", many), [1] * 2 ** many if weights is None else weights))
    found = {}
    for pattern in sorted(words("-01", many), key=plain.size, reverse=True):
        heavy = sum(weights[text] for text in weights if fits(text, pattern)) if total else 0
        choices = [0] if settled(table)[pattern] is not None else []
        for position in unknown(pattern) if not choices else []:
            low, high = found[fixed(pattern, position, "0")], found[fixed(pattern, position, "1")]
            choices.append(prices[position] * heavy + low + high if total else prices[position] + max(low, high))
        found[pattern] = min(choices)
    return found


def cost(tree, prices, text):
    return sum(1 if prices is None else prices[position] for position in plain.way(tree, text)[0])


def plain_worst(tree, many, prices):
    return max(cost(tree, prices, text) for text in words("01", many))


def plain_total(tree, many, prices, weights):
    texts = words("01", many)
    return sum(cost(tree, prices, text) * weight for text, weight in zip(texts, weights or [1] * len(texts)))


def is_plain_paper(table, value, prices, weights=None, total=False):
    """Point 104, for a dict from patterns to integers of at least 0."""
    many = many_of(table)
    prices = [1] * many if prices is None else prices
    weights = dict(zip(words("01", many), weights or [1] * 2 ** many))
    for pattern, number in value.items():
        if number > 0 and settled(table)[pattern] is not None:
            return False
        heavy = sum(weights[text] for text in weights if fits(text, pattern))
        for position in unknown(pattern):
            low, high = [value.get(fixed(pattern, position, bit), 0) for bit in "01"]
            most = prices[position] * heavy + low + high if total else prices[position] + max(low, high)
            if number > most:
                return False
    return True


class Least(unittest.TestCase):
    """Points 101 and 102."""

    def test_worst_costs(self):
        for table in TABLES:
            question = Question(table)
            for prices in some_prices(question.many):
                wanted = plain_costs(table, prices)["-" * question.many]
                self.assertTrue(same(worst_cost(question, prices=prices), wanted))
                tree = worst_tree(question, prices=prices)
                self.assertTrue(plain.is_right(table, tree))
                self.assertEqual(plain_worst(tree, question.many, prices), wanted)
                self.assertEqual(tree_worst(tree, question.many, prices=prices), wanted)

    def test_total_costs(self):
        for table in TABLES:
            question = Question(table)
            for prices, weights in some_pairs(question.many):
                wanted = plain_costs(table, prices, weights, True)["-" * question.many]
                self.assertTrue(same(total_cost(question, prices=prices, weights=weights), wanted))
                tree = total_tree(question, prices=prices, weights=weights)
                self.assertTrue(plain.is_right(table, tree))
                self.assertEqual(plain_total(tree, question.many, prices, weights), wanted)
                self.assertEqual(tree_total(tree, question.many, prices=prices, weights=weights), wanted)

    def test_left_out(self):
        for table in EVERY[::5] + MORE[::3]:
            question = Question(table)
            self.assertEqual(worst_cost(question), looks(question))
            self.assertEqual(plain_worst(worst_tree(question), question.many, None), looks(question))
            wanted = plain_costs(table, None, None, True)["-" * question.many]
            self.assertEqual(total_cost(question), wanted)
            self.assertEqual(plain_total(total_tree(question), question.many, None, None), wanted)
        self.assertEqual([worst_cost(Question("1"), prices=[]), total_cost(Question("1"), prices=(), weights=[5])],
                         [0, 0])

    def test_only_by_name(self):
        question = Question("0110")
        for deed in (worst_cost, worst_tree, worst_paper, total_cost, total_tree, total_paper):
            with self.assertRaises(TypeError):
                deed(question, [1, 1])
            deed(prices=[1, 1], question=question)
        for deed in (is_worst_paper, is_total_paper):
            with self.assertRaises(TypeError):
                deed(question, {}, 0, [1, 1])
            self.assertIs(deed(prices=[1, 1], least=0, value={}, question=question), True)
        for deed in (tree_worst, tree_total):
            with self.assertRaises(TypeError):
                deed(0, 2, [1, 1])
            self.assertEqual(deed(prices=[1, 1], many=2, tree=0), 0)

    def test_passed_lists_stay(self):
        prices, weights = [3, 1], [1, 2, 0, 5]
        question = Question("0001")
        tree = total_tree(question, prices=prices, weights=weights)
        total_paper(question, prices=prices, weights=weights)
        tree_total(tree, 2, prices=prices, weights=weights)
        is_total_paper(question, {"--": 1}, 1, prices=prices, weights=weights)
        worst_paper(question, prices=prices)
        self.assertEqual([prices, weights], [[3, 1], [1, 2, 0, 5]])


class Trees(unittest.TestCase):
    """Point 103."""

    def test_against_all_inputs(self):
        for many, tree in TREES[::3]:
            for prices, weights in some_pairs(many)[::2]:
                self.assertTrue(same(tree_worst(tree, many, prices=prices), plain_worst(tree, many, prices)))
                self.assertTrue(same(tree_total(tree, many, prices=prices, weights=weights),
                                     plain_total(tree, many, prices, weights)))

    def test_a_position_twice_on_a_way(self):
        tree = (0, (1, 0, (0, 0, 1)), 1)
        self.assertEqual([tree_worst(tree, 2), tree_worst(tree, 2, prices=[5, 2])], [3, 12])
        self.assertEqual([tree_total(tree, 2), tree_total(tree, 3), tree_total(tree, 2, weights=(0, 2, 1, 0))], [7, 14, 7])
        self.assertEqual(tree_total(tree, 2, prices=[5, 2], weights=[1, 10, 100, 0]), 7 + 120 + 500)

    def test_errors_in_their_order(self):
        wrong = (None, [1], [1, True], {}, 0)
        for tree in (None, 2, (2, 0, 1), (0, 0, 1)):
            for prices in wrong[1:]:
                for weights in wrong[1:]:
                    named = {"prices": prices, "weights": weights}
                    for many in (7, -1, True, None):
                        self.assertEqual(raised(tree_total, tree, many, **named), (BadCount, (many,)))
                    found = raised(tree_total, tree, 2, **named)
                    self.assertEqual(found, (BadPrices, (prices,)) if tree == (0, 0, 1) else (BadTree, (tree,)))
                    self.assertEqual(raised(tree_worst, tree, 2, prices=prices), found)
                    self.assertEqual(raised(tree_total, (0, 0, 1), 2, weights=weights), (BadChances, (weights,)))

    def test_bad_counts_and_trees(self):
        for deed in (tree_worst, tree_total):
            for many in NO_COUNT:
                error, kept = raised(deed, None, many)
                self.assertIs(error, BadCount)
                self.assertIs(kept[0], many)
            for many in (0, 1, 3):
                for value in no_trees(many):
                    error, kept = raised(deed, value, many, prices=0)
                    self.assertIs(error, BadTree)
                    self.assertIs(kept[0], value)


class Wrong(unittest.TestCase):
    """Point 101."""

    def check(self, error, value, deed, *given, **named):
        found, kept = raised(deed, *given, **named)
        self.assertIs(found, error)
        self.assertIs(kept[0], value)

    def test_bad_prices(self):
        for many in (1, 2, 3, 6):
            question = Question.parity(many)
            for prices in no_amounts(many):
                for deed in (worst_cost, worst_tree, worst_paper, total_cost, total_tree, total_paper):
                    self.check(BadPrices, prices, deed, question, prices=prices)
                for deed in (total_cost, total_tree, total_paper):
                    self.check(BadPrices, prices, deed, question, prices=prices, weights=[])
                for deed in (is_worst_paper, is_total_paper):
                    self.check(BadPrices, prices, deed, question, None, -1, prices=prices)
                self.check(BadPrices, prices, is_total_paper, question, {}, 0, prices=prices, weights=0)
                for deed in (tree_worst, tree_total):
                    self.check(BadPrices, prices, deed, 0, many, prices=prices)

    def test_bad_weights(self):
        for many in (1, 2, 3, 6):
            question = Question.parity(many)
            for weights in no_amounts(2 ** many):
                for deed in (total_cost, total_tree, total_paper):
                    self.check(BadChances, weights, deed, question, weights=weights)
                    self.check(BadChances, weights, deed, question, prices=[0] * many, weights=weights)
                self.check(BadChances, weights, is_total_paper, question, None, -1, weights=weights)
                self.check(BadChances, weights, tree_total, 0, many, weights=weights)

    def test_without_positions(self):
        for value in ([0], [1, 1], "", {}, 0):
            self.assertEqual(raised(worst_cost, Question("1"), prices=value), (BadPrices, (value,)))
        for value in ([], [1, 1], (), "1", {0: 1}, [None]):
            self.assertEqual(raised(total_cost, Question("1"), weights=value), (BadChances, (value,)))


class Papers(unittest.TestCase):
    """Point 104."""

    def check_told(self, table, paper, judge, least):
        self.assertIs(paper.__class__, dict)
        self.assertLessEqual(set(paper), set(settled(table)))
        self.assertTrue(all(number.__class__ is int and number >= 0 for number in paper.values()))
        self.assertEqual(paper.get("-" * many_of(table), 0), least)
        for amount in (least, least - 1, 0, -1, -LARGE):
            self.assertIs(judge(paper, amount), True)
        for amount in (least + 1, least + LARGE):
            self.assertIs(judge(paper, amount), False)

    def test_the_told_papers(self):
        for table in TABLES:
            question = Question(table)
            whole = "-" * question.many
            for prices in some_prices(question.many):
                paper = worst_paper(question, prices=prices)
                self.assertTrue(is_plain_paper(table, paper, prices))
                self.check_told(table, paper, lambda value, least: is_worst_paper(question, value, least, prices=prices),
                                plain_costs(table, prices)[whole])

    def test_the_told_total_papers(self):
        for table in TABLES:
            question = Question(table)
            for prices, weights in some_pairs(question.many)[1::2]:
                paper = total_paper(question, prices=prices, weights=weights)
                self.assertTrue(is_plain_paper(table, paper, prices, weights, True))
                self.check_told(
                    table, paper, lambda value, least: is_total_paper(
                        question, value, least, prices=prices, weights=weights),
                    plain_costs(table, prices, weights, True)["-" * question.many])

    def test_changed_papers(self):
        source = random.Random(104)
        for table in [one for one in FEW if many_of(one) > 1] + MORE[::9]:
            question = Question(table)
            for prices, weights in some_pairs(question.many)[3:6]:
                for total in (False, True):
                    if total:
                        paper = total_paper(question, prices=prices, weights=weights)
                    else:
                        paper = worst_paper(question, prices=prices)
                    for pattern in source.sample(words("-01", question.many), 7):
                        self.check_changes(table, paper, pattern, prices, weights, total)

    def check_changes(self, table, paper, pattern, prices, weights, total):
        question = Question(table)
        number = paper.get(pattern, 0)
        others = [{**paper, pattern: number + change} for change in (1, -1, LARGE) if number + change >= 0]
        others += [{key: paper[key] for key in paper if key != pattern}, {**paper, pattern: 0}]
        for value in others:
            least = value.get("-" * question.many, 0)
            wanted = is_plain_paper(table, value, prices, weights if total else None, total)
            for amount in (least, least + 1):
                if total:
                    found = is_total_paper(question, value, amount, prices=prices, weights=weights)
                else:
                    found = is_worst_paper(question, value, amount, prices=prices)
                self.assertIs(found, wanted and amount == least)

    def test_no_paper_tells_more_than_the_least_cost(self):
        source = random.Random(1040)
        for table in ("0110", "0001", "0011", "1111"):
            for _ in range(200):
                value = {one: source.choice((0, 1, 2, 3, 6)) for one in source.sample(words("-01", 2), 4)}
                prices, weights = [source.randrange(3) for _ in "01"], [source.randrange(3) for _ in "0123"]
                first = is_worst_paper(Question(table), value, 0, prices=prices)
                second = is_total_paper(Question(table), value, 0, prices=prices, weights=weights)
                self.assertIs(first, is_plain_paper(table, value, prices))
                self.assertIs(second, is_plain_paper(table, value, prices, weights, True))
                if first:
                    self.assertLessEqual(value.get("--", 0), plain_costs(table, prices)["--"])
                if second:
                    self.assertLessEqual(value.get("--", 0), plain_costs(table, prices, weights, True)["--"])

    def test_other_keys_and_amounts(self):
        question = Question("0110")
        for judge, right in ((is_worst_paper, worst_paper(question)), (is_total_paper, total_paper(question))):
            for key in ("", "-", "---", "2-", " -", "--------", 0, None, True, ("-", "-"), ("--",)):
                for amount in (0, 1, None):
                    self.assertIs(judge(question, {**right, key: amount}, 0), False)
            for amount in (True, False, None, "1", "", -1, -LARGE, [1], (1,), {}, Question("0")):
                for key in ("0-", "--", "11"):
                    self.assertIs(judge(question, {**right, key: amount}, -LARGE), False)
            self.assertIs(judge(question, {**right, "01": 0}, 0), True)
            self.assertIs(judge(question, {**right, "01": 1}, 0), False)
            self.assertIs(judge(Question("0011"), {"0-": 1}, 0), False)
            self.assertIs(judge(Question("0011"), {"0-": 0}, 0), True)

    def test_values_that_are_no_dict(self):
        for judge in (is_worst_paper, is_total_paper):
            for value in ANY + [[("--", 0)], ["--"], "--"]:
                for least in (0, -1, -LARGE):
                    self.assertIs(judge(Question("0110"), value, least), value == {})
                self.assertIs(judge(Question("0110"), value, 1), False)

    def test_returned_dicts_are_new_and_passed_ones_stay(self):
        question = Question("0110")
        for deed, judge in ((worst_paper, is_worst_paper), (total_paper, is_total_paper)):
            before = dict(deed(question))
            deed(question).clear()
            self.assertEqual(deed(question), before)
            given = dict(before)
            judge(question, given, 1)
            self.assertEqual(list(given.items()), list(before.items()))
