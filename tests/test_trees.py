"""Points 7 and 71 to 75."""

import random
import unittest

from leastlooks.errors import BadCount, BadInput, BadText, BadTree
from leastlooks.formulas import Formula
from leastlooks.questions import Question
from leastlooks.trees import (
    depth, is_tree, leaves, looked, read_tree, tree_answer, tree_question, tree_text, trimmed, wrong_input)
from tests import plain
from tests.plain import way
from tests.samples import ANY, answers, raised, same, words
from tests.test_questions import NO_COUNT
from tests.test_settling import no_inputs


def nested(depth_wanted, end=0):
    """A tree with one long way, which looks at each of its positions more than once if it is long."""
    tree = end
    for at in range(depth_wanted):
        tree = (at % 6, tree, 1) if at % 2 else (at % 6, 1, tree)
    return tree


def random_tree(source, many, most):
    """A tree with positions below a number and at most this depth; positions may stand twice on a way."""
    if most == 0 or many == 0 or source.random() < 0.15:
        return source.choice((0, 1))
    return source.randrange(many), random_tree(source, many, most - 1), random_tree(source, many, most - 1)


def random_trees(many, count):
    source = random.Random(71 + many)
    return [random_tree(source, many, source.choice((1, 2, 3, 4, 8 if many < 4 else 6))) for _ in range(count)]


TREES = [(many, tree) for many in range(7) for tree in [0, 1] + random_trees(many, 60)]


def no_trees(many):
    """Values that are no trees with positions below a number, each of which some change would make one."""
    wrong = [True, False, None, 2, -1, "0", "1", "", [], (), (0,), (0, 0), (0, 0, 1, 1), (0, 1, 0, 1, 0), {}, {0: 1},
             [0, 0, 1], [[0, 0, 1]], (many, 0, 1), (-1, 0, 1), (6, 0, 1), (10 ** 39, 0, 1), (True, 0, 1), (False, 0, 1),
             ("0", 0, 1), (None, 0, 1), ((0, 0, 1), 0, 1), ([0], 0, 1), ((), 0, 1), Question("01"), Formula("x0"),
             "(0 0 1)", ("(0 0 1)",)]
    found = list(wrong)
    if many:
        found += [(0, one, 1) for one in wrong] + [(0, 0, one) for one in wrong]
        found += [(many - 1, (0, 0, (0, one, 1)), 1) for one in wrong]
        for count in range(1, 9):
            for one in (True, None, 2, [0, 0, 1], (0, 0), (6, 0, 1)):
                tree = one
                for at in range(count):
                    tree = (at % many, tree, 1) if at % 2 else (at % many, 0, tree)
                found.append(tree)
    return found


class Kinds(unittest.TestCase):
    """Points 71 and 72."""

    def test_trees(self):
        for many, tree in TREES:
            self.assertIs(is_tree(many, tree), True)
            self.assertIs(is_tree(value=tree, many=6), True)
        for count in range(9):
            self.assertIs(is_tree(6, nested(count)), True)
            self.assertIs(is_tree(5, nested(count)), count < 6)

    def test_values_that_are_no_trees(self):
        for many in range(7):
            for value in no_trees(many):
                self.assertIs(is_tree(many, value), False, (many, value))
            for value in ANY:
                self.assertIs(is_tree(many, value), value.__class__ is int and value in (0, 1))

    def test_any_value_in_any_place(self):
        for value in ANY:
            number = value.__class__ is int and value in (0, 1)
            self.assertIs(is_tree(3, (value, 0, 1)), value.__class__ is int and value in (0, 1, 2))
            self.assertIs(is_tree(3, (0, value, 1)), number)
            self.assertIs(is_tree(3, (0, (2, 1, value), 1)), number)
            self.assertIs(is_tree(3, (0, 0, 1, value)), False)

    def test_positions_below_a_number(self):
        for many in range(7):
            for position in range(7):
                self.assertIs(is_tree(many, (position, 0, 1)), position < many)
                self.assertIs(is_tree(many, (position, (0, 0, 1), 1)), position < many)

    def test_bad_counts_come_first(self):
        for many in NO_COUNT:
            for deed in (is_tree, leaves, tree_question, trimmed):
                for value in (0, (0, 0, 1), None, (9, 0, 1)):
                    error, kept = raised(deed, many, value)
                    self.assertIs(error, BadCount)
                    self.assertIs(kept[0], many)

    def test_bad_trees(self):
        for many in (0, 1, 3, 6):
            question = Question.constant(many, 1)
            calls = [lambda one: looked(one, "0" * many), lambda one: tree_answer(one, "1" * many),
                     lambda one: leaves(many, one), lambda one: tree_question(many, one),
                     lambda one: trimmed(many, one), lambda one: wrong_input(question, one)]
            if many == 6:
                calls += [depth, tree_text]
            for value in no_trees(many):
                for call in calls:
                    error, kept = raised(call, value)
                    self.assertIs(error, BadTree)
                    self.assertIs(kept[0], value)

    def test_positions_beyond_the_input(self):
        for deed in (looked, tree_answer):
            self.assertEqual(raised(deed, (2, 0, 1), "01"), (BadTree, ((2, 0, 1),)))
            self.assertEqual(raised(deed, (0, 0, (2, 0, 1)), "00"), (BadTree, ((0, 0, (2, 0, 1)),)))
        self.assertEqual(raised(depth, (6, 0, 1)), (BadTree, ((6, 0, 1),)))
        self.assertEqual(raised(tree_text, (0, (6, 0, 1), 1)), (BadTree, ((0, (6, 0, 1), 1),)))
        self.assertEqual([depth((5, 0, 1)), tree_text((5, 0, 1))], [1, "(5 0 1)"])

    def test_bad_inputs_come_first(self):
        every = [word for many in range(7) for word in words("01", many)]
        for value in no_inputs(3):
            if not (isinstance(value, str) and value in every):
                for deed in (looked, tree_answer):
                    for tree in (0, (0, 0, 1), None, (9, 0, 1)):
                        error, kept = raised(deed, tree, value)
                        self.assertIs(error, BadInput)
                        self.assertIs(kept[0], value)


class Ways(unittest.TestCase):
    """Points 71 to 74."""

    def test_going_along(self):
        for many, tree in TREES:
            for text in words("01", many)[::1 if many < 5 else 5]:
                self.assertTrue(same((looked(tree, text), tree_answer(tree, text)), way(tree, text)))
            self.assertTrue(same(depth(tree), plain.deep(tree)))
        self.assertEqual([looked(text="1", tree=(0, 0, 1)), tree_answer(text="1", tree=(0, 0, 1)), depth(tree=1)],
                         [[0], 1, 0])

    def test_a_position_looked_at_twice(self):
        tree = (1, (0, (1, 0, 1), 1), (1, 1, (1, 1, 0)))
        self.assertEqual([looked(tree, text) for text in words("01", 2)], [[1, 0, 1], [1, 1, 1], [1, 0], [1, 1, 1]])
        self.assertEqual([tree_answer(tree, text) for text in words("01", 2)], [0, 0, 1, 0])

    def test_depths(self):
        for count in range(9):
            self.assertEqual(depth(nested(count)), count)
            self.assertEqual(depth((0, nested(2), nested(count))), 1 + max(2, count))

    def test_the_question_and_the_wrong_input(self):
        for many, tree in TREES:
            wanted = "".join(str(way(tree, text)[1]) for text in words("01", many))
            self.assertEqual(tree_question(many, tree).table, wanted)
            self.assertIsNone(wrong_input(Question(wanted), tree))
            for table in plain.random_tables(many, 4):
                wrong = [text for text, answer in answers(table).items() if way(tree, text)[1] != answer]
                self.assertTrue(same(wrong_input(Question(table), tree), wrong[0] if wrong else None))
        self.assertEqual(tree_question(tree=0, many=1).table, "00")
        self.assertEqual(wrong_input(tree=0, question=Question("11")), "0")

    def test_the_leaves(self):
        for many, tree in TREES:
            found = leaves(many, tree)
            self.assertTrue(same(found, plain_leaves(tree, "-" * many)))
            for text in words("01", many):
                mine = [one for one in found if all(letter in ("-", bit) for letter, bit in zip(one[0], text))]
                places, end = way(tree, text)
                self.assertEqual(len(mine), 1)
                self.assertEqual(mine[0], ("".join(bit if k in places else "-" for k, bit in enumerate(text)), end))
        self.assertEqual(leaves(tree=(0, 0, 1), many=2), [("0-", 0), ("1-", 1)])

    def test_returned_lists_are_new(self):
        tree = (0, (1, 0, 1), 1)
        leaves(2, tree).clear()
        looked(tree, "00").clear()
        self.assertEqual([leaves(2, tree), looked(tree, "00")], [[("00", 0), ("01", 1), ("1-", 1)], [0, 1]])


def plain_leaves(tree, pattern):
    """Point 73, read off the ways of all inputs."""
    many = len(pattern)
    ends = {}

    def walk(part, steps):
        if part in (0, 1):
            ends[len(ends)] = (steps, part)
        else:
            walk(part[1], steps + [(part[0], "0")])
            walk(part[2], steps + [(part[0], "1")])
    walk(tree, [])
    found = []
    for steps, answer in ends.values():
        if any(all(text[position] == bit for position, bit in steps) for text in words("01", many)):
            bits = dict(steps)
            found.append(("".join(bits.get(k, "-") for k in range(many)), answer))
    return found


def without_repeats(tree, bits):
    """The first step of point 74."""
    if tree in (0, 1):
        return tree
    position, low, high = tree
    if position in bits:
        return without_repeats((low, high)[bits[position]], bits)
    return position, without_repeats(low, {**bits, position: 0}), without_repeats(high, {**bits, position: 1})


def one_step(tree):
    """A tree in which one tuple with equal branches is replaced by one of them, or the same tree."""
    if tree in (0, 1):
        return tree
    position, low, high = tree
    if low == high:
        return low
    less = one_step(low)
    return (position, less, high) if less != low else (position, low, one_step(high))


class Trimmed(unittest.TestCase):
    """Point 74."""

    def test_by_the_two_rules(self):
        for many, tree in TREES:
            wanted = without_repeats(tree, {})
            while one_step(wanted) != wanted:
                wanted = one_step(wanted)
            found = trimmed(many, tree)
            self.assertTrue(same(found, wanted))
            self.assertTrue(same(trimmed(many, found), found))
            self.assertIsNone(wrong_input(tree_question(many, tree), found))
            self.assertEqual(len(leaves(many, found)), str(found).count("(") + 1)

    def test_branches_that_become_equal(self):
        self.assertEqual(trimmed(2, (0, (1, 0, 1), (1, (0, 1, 0), 1))), (1, 0, 1))
        self.assertEqual(trimmed(3, (0, (1, (2, 0, 0), 1), (1, 0, (2, 1, (2, 0, 1))))), (1, 0, 1))
        self.assertEqual(trimmed(2, (0, (1, 0, (0, 0, 1)), 0)), 0)
        self.assertEqual(trimmed(1, (0, (0, 0, 1), (0, 0, 1))), (0, 0, 1))
        self.assertEqual(trimmed(tree=(0, 1, (0, 0, 1)), many=1), 1)

    def test_equal_branches_are_compared_behind_the_first_rule(self):
        self.assertEqual(trimmed(2, (0, (1, (0, 0, 1), 1), (1, (0, 0, 1), 1))), (0, (1, 0, 1), 1))


class Texts(unittest.TestCase):
    """Point 75."""

    def test_there_and_back(self):
        for _, tree in TREES:
            text = tree_text(tree)
            self.assertEqual(text, str(tree).replace(",", ""))
            self.assertTrue(same(read_tree(text), tree))
        for count in range(9):
            self.assertEqual(read_tree(text=tree_text(tree=nested(count))), nested(count))

    def test_beginnings(self):
        for text in ("0", "1", "(0 0 1)", "(5 (1 0 (2 1 0)) 1)", "(0 0 (1 (2 1 (3 0 1)) 1))"):
            for end in range(len(text)):
                self.assertEqual(raised(read_tree, text[:end]), (BadText, (end,)))
            for letter in " 01(),x":
                self.assertEqual(raised(read_tree, text + letter), (BadText, (len(text),)))
                self.assertEqual(raised(read_tree, text + letter + text), (BadText, (len(text),)))

    def test_a_character_more_less_or_another_one(self):
        letters = [chr(code) for code in range(32, 127) if chr(code) != "%"]
        for text in ("0", "1", "(0 0 1)", "(5 (1 0 (2 1 0)) 1)"):
            for at in range(len(text) + 1):
                changed = [text[:at] + letter + text[at:] for letter in letters] + [text[:at] + text[at + 1:]]
                changed += [text[:at] + letter + text[at + 1:] for letter in letters]
                for one in changed:
                    fault = fault_of(one)
                    self.assertEqual(raised(read_tree, one), None if fault is None else (BadText, (fault,)), one)

    def test_faults(self):
        for text, at in (("", 0), (" ", 0), (" 0", 0), ("2", 0), ("(", 1), ("( 0", 1), ("(6 0 1)", 1), ("(00 1)", 2),
                         ("(0  0 1)", 3), ("(0 0  1)", 5), ("(0 0 1 )", 6), ("(0 01)", 4), ("(0 0,1)", 4), ("00", 1),
                         ("0 ", 1), ("(0 0 1) ", 7), ("(0 0 1))", 7), ("(0 0 1", 6), ("(0 (1 0 1) 1", 12), (")", 0),
                         ("(-1 0 1)", 1), ("((0 0 1) 0 1)", 1), ("(0 0)", 4), ("(0)", 2), ("(0 0 1 1)", 6)):
            self.assertEqual(raised(read_tree, text), (BadText, (at,)), text)


def fault_of(text):
    """The index of the fault of a text, by the steps of a machine that counts what is still open."""
    wanted = ["tree"]
    for at, letter in enumerate(text):
        if not wanted:
            return at
        now = wanted.pop()
        if now == "tree":
            if letter == "(":
                wanted += [")", "tree", " ", "tree", " ", "012345"]
            elif letter not in ("0", "1"):
                return at
        elif letter not in now:
            return at
    return len(text) if wanted else None
