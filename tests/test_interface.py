"""The interface: each function stands in its file, with the parameters that are listed there."""

import importlib
import inspect
import unittest

FUNCTIONS = {
    "patterns": """is_input(value) is_pattern(value) inputs(many) patterns(many) known(pattern) size(pattern)
        fitting(pattern) fits(first, second) differ(first, second) meet(first, second) common(first, second)
        with_bit(pattern, position, bit) without(pattern, position) turned(text, block) part(text, block)""",
    "formulas": "formula_of(question)",
    "settling": """settling_size(question, text) least_settling(question, text) lean_patterns(question, answer)
        settling_numbers(question) hardest_inputs(question, answer) narrow_cover(question, answer)
        is_cover(question, answer, width, value) part_ways(question, first, second)""",
    "turning": """sensitive_positions(question, text) is_sensitive(question, text, block) lean_blocks(question, text)
        apart_blocks(question, text) meets_all(question, text, block) sensitivity_numbers(question)
        block_numbers(question) most_sensitive(question)""",
    "sums": """products(question) degree(question) worth(products, text) question_of(many, products)
        odd_products(question) odd_degree(question) balance(question, block) balances(question)""",
    "trees": """is_tree(many, value) looked(tree, text) tree_answer(tree, text) depth(tree) leaves(many, tree)
        tree_question(many, tree) wrong_input(question, tree) trimmed(many, tree) tree_text(tree) read_tree(text)""",
    "looks": """looks(question) looks_left(question, pattern) best_tree(question) is_play(question, value, count)
        play(question) needs_all(question) strategies(question, pattern, *, spare=0)""",
    "bounds": """numbers(question) bounds(question) rounds_tree(question, answer) most_rounds(question, answer)
        union_settles(question, text) hub(question)""",
    "costs": """worst_cost(question, *, prices=None) worst_tree(question, *, prices=None)
        worst_paper(question, *, prices=None) is_worst_paper(question, value, least, *, prices=None)
        total_cost(question, *, prices=None, weights=None) total_tree(question, *, prices=None, weights=None)
        total_paper(question, *, prices=None, weights=None)
        is_total_paper(question, value, least, *, prices=None, weights=None)
        tree_worst(tree, many, *, prices=None) tree_total(tree, many, *, prices=None, weights=None)""",
    "straight": """fraction(top, bottom) is_fraction(value) best_sum(rows, limits, gains)
        is_best_sum(rows, limits, gains, value)""",
    "mixed": """mixture_means(question, value) weights_mean(question, weights) mixed_looks(question) mixture(question)
        hard_weights(question) loose_blocks(question, text)""",
    "lies": """open_inputs(many, lies, told) told_answer(question, lies, told) lie_looks(question, lies, told=())
        next_looks(question, lies, told=()) hard_bit(question, lies, told, position)""",
    "inside": """inside(outer, inners) inside_looks(outer, inners) inside_degree(outer, inners)
        inside_tree(outer, inners)""",
    "symmetry": "keeping_orders(question) signed_sum(question) full_prime(question)",
    "webs": """pairs(nodes) is_web_question(question, nodes) connected(nodes) has_ring(nodes) rising_webs(nodes)""",
    "kinds": """changed(question, order, block, flip) change_to(first, second) kind_of(question) kind_size(question)
        kinds(many)""",
}
METHODS = {
    ("questions", "Question"): """settled(self, pattern) restricted(self, pattern) turned_at(self, block)
        reordered(self, order) with_idle(self, position) relevant(self) is_rising(self) dual(self) constant(many, answer)
        bit_at(many, position) at_least(many, count) parity(many) of(many, yes)""",
    ("formulas", "Formula"): "positions(self) question(self, many) seen(self, pattern) is_once(self)",
    ("guesses", "Guesses"): """tell(self, fact) facts(self) undo(self) number(self) least(self) answer(self, text)""",
    ("asker", "Asker"): """look(self, position, bit) undo(self) redo(self) order(self) answer(self) needed(self) best(self)
        reply(self, position) tried(self, deed)""",
}

# The parameters that a class is called with, and what it is asked for by signs.
CLASSES = {
    ("questions", "Question"): ("(table)", """__str__ __eq__ __call__ __len__ __iter__ __contains__ __and__ __or__
        __xor__ __invert__"""),
    ("formulas", "Formula"): ("(text)", ""),
    ("guesses", "Guesses"): ("(many)", "__len__ __contains__"),
    ("asker", "Asker"): ("(question)", "__len__"),
}
PROPERTIES = {("questions", "Question"): "table many", ("asker", "Asker"): "about known_pattern"}


def listed(text):
    """The tuples (name, parameters) of a list of calls."""
    calls = " ".join(text.split()).replace(") ", ")\n").split("\n")
    return [(one[:one.index("(")], one[one.index("("):]) for one in calls]


class Interface(unittest.TestCase):
    def test_functions(self):
        for file, text in FUNCTIONS.items():
            module = importlib.import_module("leastlooks." + file)
            for name, parameters in listed(text):
                found = getattr(module, name)
                self.assertEqual(found.__module__, module.__name__)
                self.assertEqual([found.__name__, str(inspect.signature(found))], [name, parameters])

    def test_methods(self):
        for (file, name), text in METHODS.items():
            one = getattr(importlib.import_module("leastlooks." + file), name)
            self.assertEqual(one.__module__, "leastlooks." + file)
            for method, parameters in listed(text):
                self.assertIn(method, vars(one))
                self.assertEqual(str(inspect.signature(getattr(one, method))), parameters)

    def test_classes(self):
        for (file, name), (parameters, methods) in CLASSES.items():
            one = getattr(importlib.import_module("leastlooks." + file), name)
            self.assertEqual(str(inspect.signature(one)), parameters)
            for method in methods.split():
                self.assertIn(method, vars(one))

    def test_properties(self):
        for (file, name), names in PROPERTIES.items():
            one = getattr(importlib.import_module("leastlooks." + file), name)
            for method in names.split():
                self.assertIsInstance(vars(one)[method], property)
