"""Points 1 and 5 to 9, over the whole program."""

import copy
import random
import unittest

from leastlooks import (
    bounds, costs, formulas, inside, kinds, lies, looks, mixed, patterns, settling, straight, sums, symmetry, trees,
    turning, webs)
from leastlooks.asker import Asker
from leastlooks.errors import (
    BadBit, BadBlock, BadChances, BadCount, BadFact, BadInput, BadMixture, BadNodes, BadOrder, BadPattern, BadPosition,
    BadPrices, BadSum, BadTable, BadTold, BadTree, LooksError)
from leastlooks.formulas import Formula, formula_of
from leastlooks.guesses import Guesses
from leastlooks.questions import Question
from tests import plain
from tests.plain import EVERY, FEW, MORE, SIX, many_of
from tests.samples import ANY, DEEP, raised, same, words

SOME = FEW[::5] + MORE[3::10] + [SIX[5]]
BIT = Question("01")


def shown(value):
    """A value with the kind of each part, in which questions of the same table are the same."""
    if isinstance(value, Question):
        return "question", value.table
    if isinstance(value, (list, tuple)):
        return value.__class__.__name__, [shown(one) for one in value]
    if isinstance(value, dict):
        return "dict", [(shown(key), shown(one)) for key, one in value.items()]
    return value.__class__.__name__, value


def result(deed, *given, **named):
    """What a call returns or raises, as `shown`."""
    try:
        return shown(deed(*given, **named))
    except LooksError as error:
        return error.__class__.__name__, shown(list(vars(error).values()))


def of_question(question):
    """What the functions tell that take a question alone."""
    deeds = [
        str, len, list, question.relevant, question.is_rising, question.dual, formula_of,
        settling.settling_numbers, turning.sensitivity_numbers, turning.block_numbers, turning.most_sensitive,
        sums.products, sums.degree, sums.odd_products, sums.odd_degree, sums.balances,
        looks.looks, looks.best_tree, looks.play, looks.needs_all, bounds.numbers, bounds.bounds, bounds.hub,
        costs.worst_cost, costs.worst_tree, costs.worst_paper, costs.total_cost, costs.total_tree, costs.total_paper,
        mixed.mixed_looks, mixed.mixture, mixed.hard_weights, symmetry.keeping_orders, symmetry.signed_sum,
        symmetry.full_prime, kinds.kind_of, kinds.kind_size]
    alone = (question.relevant, question.is_rising, question.dual)
    return [result(deed) if deed in alone else result(deed, question) for deed in deeds]


def of_answers(question):
    deeds = (settling.lean_patterns, settling.hardest_inputs, settling.narrow_cover, bounds.rounds_tree,
             bounds.most_rounds)
    return [result(deed, question, answer) for deed in deeds for answer in (0, 1, 2)]


def of_inputs(question):
    texts = words("01", question.many)
    deeds = (question, settling.settling_size, settling.least_settling, turning.sensitive_positions,
             turning.lean_blocks, turning.apart_blocks, bounds.union_settles, mixed.loose_blocks)
    found = []
    for text in texts[::1 if len(texts) < 9 else 7] + ["0" * (question.many + 1), None]:
        found += [result(deed, text) if deed is question else result(deed, question, text) for deed in deeds]
        block = list(range(question.many))[::2]
        found += [result(turning.is_sensitive, question, text, block), result(turning.meets_all, question, text, block)]
        found.append(text in question)
    return found


def of_patterns(question):
    every = words("-01", question.many)
    found = []
    for pattern in every[::1 if len(every) < 10 else len(every) // 9] + ["-" * 7]:
        found += [result(deed, pattern) for deed in (question.settled, question.restricted)]
        found += [result(looks.looks_left, question, pattern), result(looks.strategies, question, pattern, spare=1)]
        found.append(result(settling.part_ways, question, every[0], pattern))
    return found


def of_more(question):
    """What is told of a question with something else."""
    many = question.many
    order, block = list(range(many))[::-1], list(range(many))[1:]
    tree, weights = looks.best_tree(question), list(range(1, 2 ** many + 1))
    found = [result(question.turned_at, block), result(question.reordered, order), result(question.with_idle, many),
             result(kinds.changed, question, order, block, 1), result(kinds.change_to, question, ~question),
             result(sums.balance, question, block), result(trees.wrong_input, question, tree),
             result(trees.wrong_input, question, 0), result(costs.total_cost, question, prices=order, weights=weights),
             result(mixed.weights_mean, question, weights), result(mixed.mixture_means, question, [(2, tree)]),
             result(looks.is_play, question, looks.play(question), 2), result(settling.is_cover, question, 1, 6, [])]
    for nodes in (2, 3, 4):
        found.append(result(webs.is_web_question, question, nodes))
    for told in ([], [(0, 1)]):
        found += [result(deed, question, 1, told) for deed in (lies.told_answer, lies.lie_looks, lies.next_looks)]
        found.append(result(lies.hard_bit, question, 1, told, 0))
    for outer, inners in ((question, [BIT] * many), (BIT, [question]), (Question("0110"), [question, Question("1")])):
        deeds = (inside.inside, inside.inside_looks, inside.inside_degree, inside.inside_tree)
        found += [result(deed, outer, inners) for deed in deeds]
    found += [result(lambda one: one & question, question), result(lambda one: one ^ question, ~question)]
    asker = Asker(question)
    for position in order:
        found += [asker.needed(), asker.best(), result(asker.answer), asker.reply(position), asker.known_pattern]
        asker.look(position, 1)
    guesses = Guesses(min(3, many))
    guesses.tell(("yes", len(question)))
    return found + [question in guesses]


def everything(question):
    """All that is told of a question."""
    return [of_question(question), of_answers(question), of_inputs(question), of_patterns(question), of_more(question)]


def made(table):
    """The question with a table, made in many ways."""
    question, many = Question(table), many_of(table)
    whole, order = list(range(many)), list(range(many))[::-1]
    yield from (~~question, question & question, question | question, question ^ Question.constant(many, 0))
    yield Question.of(many, list(question)[::-1] * 2)
    yield Formula(formula_of(question)).question(many)
    yield sums.question_of(many, sums.products(question))
    yield from (trees.tree_question(many, tree) for tree in (looks.best_tree(question), bounds.rounds_tree(question, 1)))
    yield from (inside.inside(question, [BIT] * many), inside.inside(BIT, (question,)))
    yield from (question.reordered(order).reordered(order), question.turned_at(whole).turned_at(tuple(whole)))
    yield from (question.dual().dual(), question.restricted("-" * many))
    yield kinds.changed(kinds.changed(question, order, whole, 1), order, whole, 1)
    if many < 6:
        yield question.with_idle(many // 2).restricted("-" * (many // 2) + "1" + "-" * (many - many // 2))
    if many < 5:
        yield kinds.changed(question, *kinds.change_to(question, question))
    yield Asker(question).about
    if many < 4:
        guesses = Guesses(many)
        for text in words("01", many):
            guesses.tell(("answer", text, question(text)))
        yield guesses.least()


class Made(unittest.TestCase):
    """Questions that are made in any way are told of as the question with the same table is."""

    def test_made_in_many_ways(self):
        for table in SOME:
            wanted = everything(Question(table))
            for at, question in enumerate(made(table)):
                self.assertEqual([question.table, question == Question(table)], [table, True], at)
                self.assertEqual(everything(question), wanted, (table, at))

    def test_class_methods_and_webs(self):
        rows = [Question.constant(3, 1), Question.bit_at(4, 2), Question.at_least(5, 3), Question.parity(4),
                webs.connected(4), webs.has_ring(3), *list(webs.rising_webs(4))[::7], kinds.kinds(3)[9],
                BIT.with_idle(0), Question("0110").with_idle(1).with_idle(3)]
        for question in rows:
            self.assertEqual(everything(question), everything(Question(question.table)))

    def test_equal_arguments_give_equal_results(self):
        for table in SOME[::3]:
            question = Question(table)
            self.assertEqual(everything(question), everything(question))


class Numbers(unittest.TestCase):
    """Point 5: each number of a question is the same by whatever function it is told."""

    def looks_told(self, question):
        many = question.many
        tree = looks.best_tree(question)
        whole = "-" * many
        found = [looks.looks(question), looks.looks_left(question, whole), bounds.numbers(question)[0],
                 dict((name, right) for name, _, right in bounds.bounds(question))["d D"], trees.depth(tree),
                 looks.play(question).get(whole, 0), costs.worst_cost(question), costs.tree_worst(tree, many),
                 trees.depth(costs.worst_tree(question)), costs.worst_paper(question).get(whole, 0),
                 inside.inside_looks(question, [BIT] * many), inside.inside_looks(BIT, [question]),
                 trees.depth(inside.inside_tree(BIT, [question])), Asker(question).needed(),
                 max(len(trees.looked(tree, text)) for text in words("01", many))]
        return found + ([lies.lie_looks(question, 0)] if many < 4 else [])

    def test_looks(self):
        for table in EVERY[::3] + MORE[::2] + SIX[::3]:
            question = Question(table)
            self.assertEqual(set(self.looks_told(question)), {plain.fewest(table)})
            self.assertIs(looks.needs_all(question), plain.fewest(table) == question.many)

    def test_settling(self):
        for table in EVERY[::3] + MORE[::2] + SIX[::3]:
            question = Question(table)
            wanted = plain.by_answer(table, plain.sizes(table))
            self.assertEqual([settling.settling_numbers(question), bounds.numbers(question)[1]], [wanted] * 2)
            for answer in (0, 1):
                texts = settling.hardest_inputs(question, answer)
                found = {settling.settling_size(question, text) for text in texts}
                found |= {len(patterns.known(settling.least_settling(question, text)[0])) for text in texts}
                self.assertEqual(found, {wanted[answer]} if texts else set())
            self.assertEqual(dict((one[0], one[1]) for one in bounds.bounds(question))["c D"], max(wanted))

    def test_sensitivity_and_blocks(self):
        for table in EVERY[::3] + MORE[::2] + SIX[::3]:
            question = Question(table)
            texts = words("01", question.many)
            first = plain.by_answer(table, {text: len(plain.positions(table, text)) for text in texts})
            second = plain.by_answer(table, {text: len(turning.apart_blocks(question, text)) for text in texts})
            self.assertEqual([turning.sensitivity_numbers(question), bounds.numbers(question)[2]], [first] * 2)
            self.assertEqual([turning.block_numbers(question), bounds.numbers(question)[3]], [second] * 2)
            self.assertEqual(len(turning.sensitive_positions(question, turning.most_sensitive(question))), max(first))
            told = {name: left for name, left, _ in bounds.bounds(question)}
            self.assertEqual([told["s b"], told["b c"]], [max(first), max(second)])

    def test_degree(self):
        for table in EVERY[::3] + MORE[::2] + SIX[::3]:
            question = Question(table)
            many = question.many
            hub = bounds.hub(question)
            found = [sums.degree(question), bounds.numbers(question)[4], inside.inside_degree(question, [BIT] * many),
                     inside.inside_degree(BIT, [question]), len(hub[0]) if hub else 0,
                     max((len(block) for block in sums.balances(question)), default=0),
                     dict((one[0], one[1]) for one in bounds.bounds(question))["d D"]]
            self.assertEqual(set(found), {plain.degree(table)})

    def test_facts(self):
        for table in EVERY[::11]:
            question = Question(table)
            most, settled, sensitive, apart, high = bounds.numbers(question)
            guesses = Guesses(question.many)
            for word, count in (("looks", most), ("settling", max(settled)), ("sensitivity", max(sensitive)),
                                ("blocks", max(apart)), ("degree", high), ("yes", len(question))):
                self.assertIs(guesses.tell((word, count)), True)
                self.assertIs(question in guesses, True)

    def test_fixed_powers(self):
        for table in EVERY + MORE + SIX:
            most, settled, sensitive, apart, high = bounds.numbers(Question(table))
            s, b, c = max(sensitive), max(apart), max(settled)
            self.assertTrue(s <= b <= c <= most <= c * c and c <= b * s and b <= high * high and high <= s * s)
            self.assertTrue(high <= most <= settled[0] * settled[1] and most <= settled[1] * apart[0])
            self.assertTrue(most <= b ** 3 and most <= high ** 6 and c <= s ** 8)


class Afterwards(unittest.TestCase):
    """Point 7: what was told and is changed by the caller changes no later answer, nor does what was returned."""

    def test_what_was_passed(self):
        yes, order, block = ["011", "110"], [2, 0, 1], [2, 0]
        first = Question.of(3, yes)
        found = [first, first.reordered(order), first.turned_at(block), kinds.changed(first, order, block, 1)]
        inners, sum_given = [BIT, Question("0111")], {(0,): 1, (1,): 1, (0, 1): -1}
        found += [inside.inside(Question("0001"), inners), sums.question_of(2, sum_given)]
        before = [everything(question) for question in found]
        for given in (yes, order, block, inners):
            given.append(given.pop(0))
            given.pop()
        sum_given[(0, 1)] = 0
        self.assertEqual([everything(question) for question in found], before)

    def test_what_was_told(self):
        question = Question("00010111")
        told, weights, prices = [(0, 1), (1, 0)], [1] * 8, [1, 2, 3]
        rows = [(2, looks.best_tree(question))]
        calls = [lambda: lies.lie_looks(question, 1, [(0, 1), (1, 0)]), lambda: lies.lie_looks(question, 1),
                 lambda: mixed.weights_mean(question, [1] * 8), lambda: costs.worst_cost(question, prices=[1, 2, 3]),
                 lambda: mixed.mixture_means(question, [(2, looks.best_tree(question))])]
        before = [deed() for deed in calls]
        lies.lie_looks(question, 1, told)
        lies.next_looks(question, 1, told)
        mixed.weights_mean(question, weights)
        costs.worst_tree(question, prices=prices)
        mixed.mixture_means(question, rows)
        for given in (told, weights, prices, rows):
            given.clear()
        self.assertEqual([deed() for deed in calls], before)

    def test_what_was_returned(self):
        for table in FEW[::5]:
            question = Question(table)
            before = everything(question)
            for deed in (list, question.relevant, sums.products, sums.odd_products, sums.balances, looks.play,
                         bounds.bounds, costs.worst_paper, costs.total_paper, mixed.mixture, mixed.hard_weights,
                         symmetry.keeping_orders):
                found = deed() if deed == question.relevant else deed(question)
                for inner in found:
                    if isinstance(inner, list):
                        inner.clear()
                found.clear()
            for deed in (settling.lean_patterns, settling.hardest_inputs, settling.narrow_cover):
                deed(question, 1).clear()
            text = "0" * question.many
            for found in (bounds.union_settles(question, text)[0], *mixed.loose_blocks(question, text)[1:],
                          (bounds.hub(question) or [[]])[-1], lies.next_looks(question, 1)):
                found.clear()
            self.assertEqual(everything(question), before)

    def test_an_exception_keeps_what_is_changed(self):
        given = [0, 0]
        with self.assertRaises(BadBlock) as caught:
            BIT.turned_at(given)
        given.append(1)
        self.assertIs(caught.exception.given, given)
        self.assertEqual(caught.exception.given, [0, 0, 1])


class Values(unittest.TestCase):
    """Point 8: each exception keeps the very value; its class is the one that the point names first."""

    def test_the_very_value(self):
        two = Question("0110")
        tree = looks.best_tree(two)
        calls = [
            (BadCount, patterns.inputs), (BadPattern, patterns.known), (BadPattern, lambda one: patterns.fits("0", one)),
            (BadPosition, lambda one: patterns.with_bit("01", one, None)), (BadBit, lambda one: patterns.with_bit("01", 0, one)),
            (BadInput, lambda one: patterns.turned(one, None)), (BadBlock, lambda one: patterns.part("01", one)),
            (BadTable, Question), (BadInput, two), (BadPattern, two.settled), (BadBlock, two.turned_at),
            (BadOrder, two.reordered), (BadPosition, two.with_idle), (BadCount, lambda one: Question.constant(one, None)),
            (BadBit, lambda one: Question.constant(2, one)), (BadCount, lambda one: Question.at_least(2, one)),
            (BadInput, lambda one: Question.of(2, [one])), (BadCount, Formula("x0").question),
            (BadPattern, Formula("x0").seen), (BadInput, lambda one: settling.settling_size(two, one)),
            (BadBit, lambda one: settling.lean_patterns(two, one)), (BadCount, lambda one: settling.is_cover(two, 1, one, [])),
            (BadPattern, lambda one: settling.part_ways(two, one, one)), (BadInput, lambda one: turning.lean_blocks(two, one)),
            (BadBlock, lambda one: turning.meets_all(two, "00", one)), (BadSum, lambda one: sums.worth(one, "00")),
            (BadBlock, lambda one: sums.balance(two, one)), (BadTree, trees.depth), (BadInput, lambda one: trees.looked(tree, one)),
            (BadTree, lambda one: trees.wrong_input(two, one)), (BadCount, lambda one: trees.is_tree(one, tree)),
            (BadPattern, lambda one: looks.looks_left(two, one)), (BadCount, lambda one: looks.is_play(two, {}, one)),
            (BadCount, lambda one: looks.strategies(two, "--", spare=one)), (BadBit, lambda one: bounds.rounds_tree(two, one)),
            (BadPrices, lambda one: costs.worst_cost(two, prices=one)), (BadInput, lambda one: bounds.union_settles(two, one)),
            (BadChances, lambda one: costs.total_cost(two, weights=one)), (BadTree, lambda one: costs.tree_worst(one, 2)),
            (BadMixture, lambda one: mixed.mixture_means(two, one)), (BadChances, lambda one: mixed.weights_mean(two, one)),
            (BadInput, lambda one: mixed.loose_blocks(two, one)), (BadCount, lambda one: lies.open_inputs(2, one, None)),
            (BadTold, lambda one: lies.lie_looks(two, 1, one)), (BadPosition, lambda one: lies.hard_bit(two, 1, (), one)),
            (BadNodes, webs.pairs), (BadNodes, lambda one: next(webs.rising_webs(one))),
            (BadOrder, lambda one: kinds.changed(two, one, None, None)), (BadBlock, lambda one: kinds.changed(two, [0, 1], one, 7)),
            (BadBit, lambda one: kinds.changed(two, [0, 1], [], one)), (BadCount, kinds.kinds), (BadCount, Guesses),
            (BadFact, Guesses(2).tell), (BadInput, Guesses(2).answer), (BadPosition, lambda one: Asker(two).look(one, None)),
            (BadBit, lambda one: Asker(two).look(0, one)), (BadPosition, Asker(two).reply)]
        # None of these is right at any of the places above.
        for value in (True, False, -1, 10 ** 39, "x", "0" * 70, [None], [[0], 0], (7, 0, 0), (True,), DEEP, {"0": [1]},
                      {(0, 0): 1}, Formula("x0"), Question("011" + "0" * 5), object):
            before = copy.deepcopy(value) if isinstance(value, (list, dict)) else value
            for error, deed in calls:
                found, kept = raised(deed, value)
                self.assertIs(found, error, value)
                self.assertEqual(len(kept), 1)
                self.assertIs(kept[0], value)
            self.assertEqual(value, before)

    def test_truth_values(self):
        for table in FEW[::3]:
            question = Question(table)
            tree, whole = looks.best_tree(question), "-" * question.many
            for value in ANY + [tree, looks.play(question), [(1, tree)], "0" * question.many, whole, question]:
                deeds = [patterns.is_input, patterns.is_pattern, straight.is_fraction, lambda one: one in question,
                         lambda one: one in Guesses(0), lambda one: trees.is_tree(question.many, one),
                         lambda one: looks.is_play(question, one, 0), lambda one: settling.is_cover(question, 1, 6, one),
                         lambda one: costs.is_worst_paper(question, one, 0), lambda one: question == one,
                         lambda one: costs.is_total_paper(question, one, 0), lambda one: question != one,
                         lambda one: straight.is_best_sum([[1]], [1], [1], one)]
                for deed in deeds:
                    self.assertIn(deed(value).__class__, (bool,))


class Formulas(unittest.TestCase):
    """Points 7 and 9: formulas never change either."""

    def test_formulas_never_change(self):
        formula = Formula("x0 and (x1 or x2)")
        before = [formula.positions(), formula.question(3).table, formula.seen("1--"), formula.is_once()]
        formula.positions().clear()
        for value in ANY:
            raised(formula.question, value)
            raised(formula.seen, value)
        self.assertEqual([formula.positions(), formula.question(3).table, formula.seen("1--"), formula.is_once()], before)

    def test_returned_values_may_be_passed_again(self):
        source = random.Random(9)
        for _ in range(10):
            table = "".join(source.choice("01") for _ in range(64))
            text = formulas.formula_of(Question(table))
            self.assertEqual(Formula(text).question(6).table, table)
        # Longer than callers' own integers.
        large = straight.fraction(10 ** 40 - 1, 10 ** 40 - 3)
        self.assertTrue(same(straight.fraction(large[0] ** 3, large[1] ** 3), (large[0] ** 3, large[1] ** 3)))
