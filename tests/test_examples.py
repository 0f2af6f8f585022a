"""The examples of the interface, with the very values that stand there, and those of README.md."""

import doctest
import os
import unittest

from leastlooks.asker import Asker
from leastlooks.bounds import bounds, hub, most_rounds, numbers, rounds_tree, union_settles
from leastlooks.costs import (
    is_total_paper, is_worst_paper, total_cost, total_paper, tree_total, tree_worst, worst_cost)
from leastlooks.errors import BadFormula, BadText, NotAnswers
from leastlooks.formulas import Formula, formula_of
from leastlooks.guesses import Guesses
from leastlooks.inside import inside, inside_degree, inside_looks
from leastlooks.kinds import change_to, changed, kind_of, kind_size, kinds
from leastlooks.lies import hard_bit, lie_looks, open_inputs, told_answer
from leastlooks.looks import best_tree, is_play, looks, looks_left, needs_all, play, strategies
from leastlooks.mixed import hard_weights, loose_blocks, mixed_looks, mixture_means, weights_mean
from leastlooks.patterns import common, differ, fits, fitting, inputs, known, meet, part, patterns, turned, with_bit
from leastlooks.questions import Question
from leastlooks.settling import (
    hardest_inputs, is_cover, lean_patterns, least_settling, narrow_cover, part_ways, settling_numbers, settling_size)
from leastlooks.straight import best_sum, fraction, is_best_sum, is_fraction
from leastlooks.sums import balance, balances, degree, odd_products, products, question_of, worth
from leastlooks.symmetry import full_prime, keeping_orders, signed_sum
from leastlooks.trees import (
    depth, leaves, looked, read_tree, tree_answer, tree_question, tree_text, trimmed, wrong_input)
from leastlooks.turning import (
    apart_blocks, block_numbers, is_sensitive, lean_blocks, meets_all, most_sensitive, sensitive_positions,
    sensitivity_numbers)
from leastlooks.webs import connected, has_ring, is_web_question, pairs, rising_webs
from tests.samples import same

README = os.path.join(os.path.dirname(os.path.dirname(os.path.abspath(__file__))), "README.md")


class Examples(unittest.TestCase):
    def check(self, found, wanted):
        self.assertTrue(same(found, wanted), (found, wanted))

    def test_patterns(self):
        self.check([inputs(2), patterns(1), known("0-1"), fitting("0-1")],
                   [['00', '01', '10', '11'], ['-', '0', '1'], [0, 2], ['001', '011']])
        self.check([fits("011", "0-1"), fits("0-1", "011"), differ("01-", "1-1"), meet("01-", "-11"),
                    meet("01-", "00-"), common("01-", "-11")],
                   [True, False, [0], '011', None, '-1-'])
        self.check([with_bit("0-1", 1, 1), turned("0110", [3, 0]), part("0110", (1,))], ['011', '1111', '-1--'])

    def test_questions(self):
        two = Question.at_least(3, 2)
        self.check([two.table, two("110"), len(two), list(two), "011" in two, two.settled("1-1"), two.settled("1--")],
                   ['00010111', 1, 4, ['011', '101', '110', '111'], True, 1, None])
        self.check([str(two.restricted("0--")), str(two.restricted("-1-")), str(~two), two.dual() == two,
                    two.relevant(), two.is_rising()],
                   ['0001', '0111', '11101000', True, [0, 1, 2], True])
        gate = Question("0010")
        self.check([str(Question.bit_at(3, 0).reordered([1, 2, 0])), str(gate.turned_at([0])), str(gate.with_idle(1)),
                    str(gate ^ Question.parity(2))],
                   ['01010101', '1000', '00001010', '0100'])

    def test_formulas(self):
        two = Question.at_least(3, 2)
        both = Formula("not x0 and(x1 or  x2 or (x0))")
        self.check([both.positions(), both.question(3).table, both.seen("1--"), both.seen("-1-"), both.is_once()],
                   [[0, 1, 2], '01110000', 0, None, False])
        self.check([Formula(formula_of(two)).question(3) == two, Formula("atleast(2, x0, x1, x2)").seen("11-"),
                    Formula("x0 or not x0").seen("-"), Formula("x0 and not x1").is_once()],
                   [True, 1, None, True])

    def test_the_errors_of_formulas(self):
        for text, at in (("x0 and or x1", 7), ("(x0", 3)):
            with self.assertRaises(BadFormula) as caught:
                Formula(text)
            self.assertEqual(caught.exception.at, at)

    def test_settling(self):
        two = Question.at_least(3, 2)
        self.check([settling_size(two, "000"), least_settling(two, "000"), least_settling(two, "011"),
                    lean_patterns(two, 1), settling_numbers(two)],
                   [2, ['-00', '0-0', '00-'], ['-11'], ['-11', '1-1', '11-'], (2, 2)])
        either = Question.at_least(3, 1)
        self.check([settling_numbers(either), hardest_inputs(either, 0), lean_patterns(either, 1),
                    part_ways(two, "00-", "-11")],
                   [(3, 1), ['000'], ['--1', '-1-', '1--'], 1])
        self.check([len(narrow_cover(either, 1)), is_cover(either, 1, 1, ["--1", "-1-", "1--"]),
                    is_cover(either, 1, 1, ["--1", "-1-"])],
                   [3, True, False])

    def test_turning(self):
        two = Question.at_least(3, 2)
        self.check([sensitive_positions(two, "000"), lean_blocks(two, "000"), sensitive_positions(two, "001"),
                    apart_blocks(two, "001")],
                   [[], [(0, 1), (0, 2), (1, 2)], [0, 1], [(0,), (1,)]])
        self.check([sensitivity_numbers(two), block_numbers(two), most_sensitive(two),
                    is_sensitive(two, "000", [2, 1]), meets_all(two, "000", [0, 1])],
                   [(2, 2), (2, 2), '001', True, True])
        sides = Question.of(4, ["0000", "0011", "1100", "1111"])
        self.check([apart_blocks(sides, "0100"), sensitivity_numbers(sides), block_numbers(sides)],
                   [[(0,), (1,)], (2, 4), (2, 4)])

    def test_sums(self):
        two = Question.at_least(3, 2)
        self.check([products(two), degree(two), odd_products(two), worth(products(two), "111")],
                   [{(0, 1): 1, (0, 1, 2): -2, (0, 2): 1, (1, 2): 1}, 3, [(0, 1), (0, 2), (1, 2)], 1])
        self.check([balances(two), balance(two, [1]), products(Question("10")), products(Question("0"))],
                   [{(0,): 4, (0, 1, 2): -4, (1,): 4, (2,): 4}, 4, {(): 1, (0,): -1}, {}])
        self.check(str(question_of(2, {(0,): 1, (1,): 1, (0, 1): -1})), '0111')
        with self.assertRaises(NotAnswers) as caught:
            question_of(2, {(0,): 1, (1,): 1})
        self.check(caught.exception.text, '11')

    def test_trees(self):
        tree = (0, (1, 0, 0), (1, (0, 0, 1), 1))
        self.check([looked(tree, "10"), tree_answer(tree, "10"), depth(tree), leaves(2, tree)],
                   [[0, 1, 0], 1, 3, [('00', 0), ('01', 0), ('10', 1), ('11', 1)]])
        self.check([trimmed(2, tree), str(tree_question(2, tree)), wrong_input(Question("0001"), tree),
                    tree_text((0, 0, (1, 0, 1))), read_tree("(0 0 (1 0 1))")],
                   [(0, 0, 1), '0011', '10', '(0 0 (1 0 1))', (0, 0, (1, 0, 1))])
        with self.assertRaises(BadText) as caught:
            read_tree("(0 0 2)")
        self.check(caught.exception.at, 5)

    def test_looks(self):
        two = Question.at_least(3, 2)
        self.check([looks(two), looks_left(two, "0--"), best_tree(two), needs_all(two)],
                   [3, 2, (0, (1, 0, (2, 0, 1)), (1, (2, 0, 1), 1)), True])
        chosen = Question("01010011")
        self.check([looks(chosen), strategies(chosen, "---"), strategies(chosen, "---", spare=1),
                    strategies(chosen, "0--"), best_tree(chosen)],
                   [2, [0], [0, 1, 2], [2], (0, (2, 0, 1), (1, 0, 1))])
        self.check([is_play(two, play(two), 3), is_play(two, {"---": 1}, 1), is_play(two, {"---": 2}, 1),
                    is_play(two, {"1--": 1, "---": 2, "-1-": 1, "--0": 1}, 2)],
                   [True, True, False, True])

    def test_bounds(self):
        two = Question.at_least(3, 2)
        self.check([numbers(two), bounds(two)[3:6], hub(two), union_settles(two, "001")],
                   [(3, (2, 2), (2, 2), (2, 2), 3), [('c D', 2, 3), ('D cc', 3, 4), ('D cb', 3, 4)],
                    ((0, 1, 2), '001', [0, 1]), ([(0,), (1,)], '00-')])
        self.check([rounds_tree(two, 1), most_rounds(two, 1)], [(1, (2, 0, (0, 0, 1)), (2, (0, 0, 1), 1)), 2])

    def test_costs(self):
        two = Question.at_least(3, 2)
        whole = (0, (1, 0, (2, 0, 1)), (1, (2, 0, 1), 1))
        self.check([worst_cost(two, prices=[1, 1, 5]), total_cost(two), tree_worst(whole, 3, prices=[1, 1, 5]),
                    tree_total(whole, 3, weights=[1, 0, 0, 0, 0, 0, 0, 1])],
                   [7, 20, 7, 4])
        self.check([is_worst_paper(two, {"---": 2, "--0": 1}, 2), is_total_paper(two, total_paper(two), 20)],
                   [False, True])

    def test_straight(self):
        self.check([fraction(6, -4), is_fraction((2, 4)), best_sum([[1, -1]], [2], [0, 1]),
                    best_sum([[2, 1], [1, 3]], [4, 5], [1, 1])],
                   [(-3, 2), False, None, ((13, 5), [(7, 5), (6, 5)], [(2, 5), (1, 5)])])
        self.check(is_best_sum([[2, 1], [1, 3]], [4, 5], [1, 1], ((13, 5), [(7, 5), (6, 5)], [(2, 5), (1, 5)])), True)

    def test_mixed(self):
        two = Question.at_least(3, 2)
        whole = (0, (1, 0, (2, 0, 1)), (1, (2, 0, 1), 1))
        self.check([mixed_looks(two), weights_mean(two, [0, 1, 1, 1, 1, 1, 1, 0]),
                    mixture_means(two, [(1, whole)])[:3], loose_blocks(two, "000")[0]],
                   [(8, 3), (8, 3), [(2, 1), (2, 1), (3, 1)], (3, 2)])
        self.check(weights_mean(two, hard_weights(two)), (8, 3))

    def test_lies(self):
        bit = Question("01")
        self.check([lie_looks(bit, 1), lie_looks(bit, 2), lie_looks(bit, 1, [(0, 1)]), hard_bit(bit, 1, [(0, 1)], 0),
                    told_answer(bit, 1, [(0, 1), (0, 1)])],
                   [3, 5, 2, 0, 1])
        self.check(open_inputs(2, 1, [(0, 1), (1, 0)]), ['00', '10', '11'])

    def test_inside(self):
        bit = Question("01")
        two_in = [Question("0111"), bit]
        self.check([str(inside(Question("0001"), two_in)), inside_looks(Question("0001"), two_in),
                    inside_degree(Question("0001"), two_in)],
                   ['00010101', 3, 3])
        self.check([str(inside(Question("0110"), [Question("1"), bit])),
                    inside_looks(Question("0110"), [Question("1"), bit])],
                   ['10', 1])

    def test_symmetry_and_webs(self):
        two = Question.at_least(3, 2)
        self.check([len(keeping_orders(two)), signed_sum(two), full_prime(two), full_prime(Question.parity(2)), pairs(3),
                    connected(3) == two],
                   [6, 2, 3, None, [(0, 1), (0, 2), (1, 2)], True])
        self.check([is_web_question(two, 3), str(has_ring(3)), len(connected(4)), [str(one) for one in rising_webs(3)]],
                   [True, '00000001', 38, ['00000001', '00010111', '01111111']])

    def test_kinds(self):
        gate = Question("0010")
        self.check([str(changed(gate, [1, 0], [0], 1)), change_to(gate, Question("0001")), kind_size(gate),
                    [str(one) for one in kinds(2)]],
                   ['0111', ((0, 1), (1,), 0), 8, ['0000', '0001', '0011', '0110']])
        self.check(str(kind_of(gate)), '0001')

    def test_guesses(self):
        guesses = Guesses(2)
        self.check([guesses.number(), guesses.tell(("looks", 2)), guesses.tell(("answer", "00", 0)), guesses.number(),
                    str(guesses.least())],
                   [16, True, True, 5, '0001'])
        self.check([guesses.tell(("yes", 2)), guesses.tell(("degree", 1)), guesses.number(), guesses.answer("01"),
                    guesses.undo(), guesses.facts()],
                   [True, False, 1, 1, None, [('looks', 2), ('answer', '00', 0)]])

    def test_asker(self):
        asker = Asker(Question("01010011"))
        self.check([asker.needed(), asker.best(), asker.reply(1), asker.look(1, 0), asker.needed(), asker.known_pattern,
                    asker.reply(2), asker.look(2, 1)],
                   [2, 0, 0, None, 2, '-0-', 1, None])
        self.check([asker.tried(lambda held: (held.undo(), held.look(0, 0), held.known_pattern)[2]), asker.known_pattern,
                    asker.order()],
                   ['00-', '-01', [1, 2]])

    def test_the_readme(self):
        self.assertEqual(doctest.testfile(README, module_relative=False).failed, 0)
