"""Everything ends soon, for questions of 6 positions too, asked one after the other."""

import time
import unittest

from leastlooks import (
    bounds, costs, inside, kinds, lies, looks, mixed, settling, straight, sums, symmetry, trees, turning, webs)
from leastlooks.asker import Asker
from leastlooks.errors import TooMany
from leastlooks.guesses import Guesses
from leastlooks.questions import Question
from tests.plain import SIX, random_tables
from tests.samples import raised

TEXT = "010011"
PATTERNS = ["------", "0-----", "--1-0-"]


def ask_settling(question):
    settling.settling_size(question, TEXT)
    settling.least_settling(question, TEXT)
    settling.settling_numbers(question)
    for answer in (0, 1):
        settling.lean_patterns(question, answer)
        settling.hardest_inputs(question, answer)
        settling.is_cover(question, answer, 6, settling.narrow_cover(question, answer))
    if 0 < len(question) < 64:
        settling.part_ways(question, list(question)[0], list(~question)[0])


def ask_turning(question):
    for deed in (turning.sensitive_positions, turning.lean_blocks, turning.apart_blocks):
        deed(question, TEXT)
    for deed in (turning.is_sensitive, turning.meets_all):
        deed(question, TEXT, [0, 5])
    for deed in (turning.sensitivity_numbers, turning.block_numbers, turning.most_sensitive):
        deed(question)


def ask_sums(question):
    sums.worth(sums.products(question), TEXT)
    sums.question_of(6, sums.products(question))
    sums.balance(question, [0, 5])
    for deed in (sums.degree, sums.odd_products, sums.odd_degree, sums.balances):
        deed(question)


def ask_trees(question):
    tree = looks.best_tree(question)
    for deed in (trees.is_tree, trees.leaves, trees.tree_question, trees.trimmed):
        deed(6, tree)
    for deed in (trees.looked, trees.tree_answer):
        deed(tree, TEXT)
    trees.depth(tree)
    trees.wrong_input(question, tree)
    trees.read_tree(trees.tree_text(tree))


def ask_looks(question):
    looks.looks(question)
    looks.needs_all(question)
    looks.best_tree(question)
    looks.is_play(question, looks.play(question), 3)
    for pattern in PATTERNS:
        looks.looks_left(question, pattern)
        looks.strategies(question, pattern, spare=1)


def ask_bounds(question):
    for deed in (bounds.numbers, bounds.bounds, bounds.hub):
        deed(question)
    for answer in (0, 1):
        bounds.rounds_tree(question, answer)
        bounds.most_rounds(question, answer)
    bounds.union_settles(question, TEXT)


def ask_costs(question):
    prices, weights = [3, 1, 4, 1, 5, 9], [10 ** 39 - place for place in range(64)]
    costs.worst_cost(question, prices=prices)
    costs.total_cost(question, prices=prices, weights=weights)
    costs.tree_worst(costs.worst_tree(question, prices=prices), 6, prices=prices)
    costs.tree_total(costs.total_tree(question, weights=weights), 6, prices=prices, weights=weights)
    costs.is_worst_paper(question, costs.worst_paper(question, prices=prices), 9, prices=prices)
    costs.is_total_paper(question, costs.total_paper(question, weights=weights), 9, weights=weights)


def ask_mixed(question):
    tree = looks.best_tree(question)
    mixed.mixture_means(question, [(10 ** 39 - place, tree) for place in range(4)])
    mixed.weights_mean(question, [10 ** 39 - place for place in range(64)])
    for text in ("000000", TEXT, "111111"):
        mixed.loose_blocks(question, text)


def ask_inside(question):
    for inners in ([Question("01")] * 6, [Question("0")] * 5 + [question]):
        for deed in (inside.inside, inside.inside_looks, inside.inside_degree, inside.inside_tree):
            deed(question, inners)
            deed(Question("0001"), [question, Question("1")])


def ask_symmetry(question):
    for deed in (symmetry.keeping_orders, symmetry.signed_sum, symmetry.full_prime):
        deed(question)


def ask_webs(question):
    for nodes in (2, 3, 4):
        webs.is_web_question(question, nodes)
        for one in webs.rising_webs(nodes):
            looks.looks(one)


def ask_asker(question):
    asker = Asker(question)
    while asker.best() is not None:
        asker.look(asker.best(), asker.reply(asker.best()))
        asker.tried(lambda held: [held.undo() for _ in range(len(held))])
        asker.needed()
    asker.answer()


def ask_few(question):
    """What is told only of questions of few positions ends soon, too, by an error."""
    for deed in (mixed.mixed_looks, mixed.mixture, mixed.hard_weights):
        assert raised(deed, question) == (TooMany, (6,))
    for deed in (kinds.kind_of, kinds.kind_size):
        assert raised(deed, question) == (TooMany, (6,))
    assert raised(kinds.change_to, question, question) == (TooMany, (6,))
    kinds.changed(question, [5, 3, 4, 0, 2, 1], [0, 5], 1)
    for deed in (lies.told_answer, lies.lie_looks, lies.next_looks):
        assert raised(deed, question, 2, [(5, 1)] * 9) == (TooMany, (6,))


class Soon(unittest.TestCase):
    def check(self, deed, rows):
        begun = time.monotonic()
        for row in rows:
            deed(row)
        # Much more than it takes, and much less than a search of another kind would take.
        self.assertLess(time.monotonic() - begun, 30)

    def test_questions_of_six_positions(self):
        questions = [Question(table) for table in SIX]
        for deed in (ask_settling, ask_turning, ask_sums, ask_trees, ask_looks, ask_bounds, ask_costs, ask_mixed,
                     ask_inside, ask_symmetry, ask_webs, ask_asker, ask_few):
            self.check(deed, questions)

    def test_many_lies(self):
        tables = ["01101001", "00010111", "01010011", "01111110"]
        self.check(lambda table: lies.next_looks(Question(table), 2, [(0, 1), (1, 0)] * 2), tables * 5)

    def test_kinds_and_guesses(self):
        self.check(lambda many: [kinds.kind_size(one) for one in kinds.kinds(many)], [3] * 5)
        tables = random_tables(4, 9) + [Question.parity(4).table]
        self.check(lambda table: kinds.change_to(Question(table), kinds.kind_of(~Question(table))), tables)
        for word in ("yes", "looks", "settling", "sensitivity", "blocks", "degree"):
            self.check(lambda count: Guesses(3).tell((word, count)), range(9))

    def test_sums_of_eight_rows_and_gains(self):
        # Turns at the first column go past many corners of this box, as V. Klee and G. J. Minty found.
        rows = [[2 * 100 ** (at - place) if place < at else int(place == at) for place in range(8)] for at in range(8)]
        limits, gains = [10 ** (4 * at) for at in range(8)], [10 ** (2 * (7 - place)) for place in range(8)]
        large = [[(7 ** (8 * at + place) * 10 ** 30) // 3 for place in range(8)] for at in range(8)]
        self.check(lambda one: straight.is_best_sum(*one, straight.best_sum(*one)),
                   [(rows, limits, gains), (rows[::-1], limits[::-1], gains[::-1]), (large, [10 ** 39] * 8, [1] * 8)])
