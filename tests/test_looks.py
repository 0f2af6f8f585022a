"""Points 5, 7, 35 and 81 to 85."""

import random
import unittest

from leastlooks.errors import BadCount, BadPattern
from leastlooks.formulas import Formula
from leastlooks.looks import best_tree, is_play, looks, looks_left, needs_all, play, strategies
from leastlooks.questions import Question
from leastlooks.trees import depth, wrong_input
from tests import plain
from tests.plain import EVERY, FEW, MORE, SIX, fewest, fixed, left, many_of, settled, unknown
from tests.samples import ANY, raised, same, words
from tests.test_settling import NO_WIDTH, no_patterns

ALL = EVERY + MORE + SIX


def some_patterns(table):
    """All patterns of few positions, and some of many."""
    every = words("-01", many_of(table))
    return every if len(every) < 100 else every[::13] + every[:3]


def plain_tree(table, pattern):
    """Point 82, by its rule."""
    if settled(table)[pattern] is not None:
        return settled(table)[pattern]
    for position in unknown(pattern):
        both = [fixed(pattern, position, bit) for bit in "01"]
        if 1 + max(left(table, one) for one in both) == left(table, pattern):
            return (position, *[plain_tree(table, one) for one in both])
    raise AssertionError(pattern)


def is_plain_play(table, value):
    """Point 83, for a dict from patterns to integers."""
    for pattern, number in value.items():
        if number > 0 and settled(table)[pattern] is not None:
            return False
        for position in unknown(pattern):
            if number > 0 and all(value.get(fixed(pattern, position, bit), 0) < number - 1 for bit in "01"):
                return False
    return True


class Numbers(unittest.TestCase):
    """Points 81 and 84."""

    def test_looks(self):
        for table in ALL:
            self.assertTrue(same(looks(Question(table)), fewest(table)), table)
            self.assertIs(needs_all(Question(table)), fewest(table) == many_of(table))

    def test_all_are_needed(self):
        for many in range(7):
            self.assertIs(needs_all(question=Question.parity(many)), True)
            for count in range(1, many + 1):
                self.assertIs(needs_all(Question.at_least(many, count)), True)
            self.assertIs(needs_all(Question.constant(many, 1)), many == 0)
            self.assertEqual(looks(question=Question.constant(many, 0)), 0)

    def test_looks_left(self):
        for table in FEW + MORE + SIX:
            question = Question(table)
            for pattern in some_patterns(table):
                found = looks_left(question, pattern)
                self.assertTrue(same(found, left(table, pattern)))
                self.assertEqual(found, looks(question.restricted(pattern)))
        self.assertEqual(looks_left(pattern="0--", question=Question("00010111")), 2)

    def test_bad_patterns(self):
        for many in (0, 1, 3, 6):
            question = Question.constant(many, 0)
            for value in no_patterns(many):
                for deed, named in ((looks_left, {}), (strategies, {}), (strategies, {"spare": None})):
                    error, kept = raised(deed, question, value, **named)
                    self.assertIs(error, BadPattern)
                    self.assertIs(kept[0], value)


class Trees(unittest.TestCase):
    """Point 82."""

    def test_by_the_rule(self):
        for table in ALL:
            question = Question(table)
            tree = best_tree(question)
            self.assertTrue(same(tree, plain_tree(table, "-" * question.many)), table)
            self.assertTrue(plain.is_right(table, tree))
            self.assertEqual(plain.deep(tree), fewest(table))
            self.assertEqual([depth(tree), wrong_input(question, tree)], [looks(question), None])
        self.assertTrue(same([best_tree(question=Question("1")), best_tree(Question("0000"))], [1, 0]))

    def test_the_least_position_of_several(self):
        self.assertEqual(best_tree(Question("0110")), (0, (1, 0, 1), (1, 1, 0)))
        # Looking at position 0 first would take a look too many.
        self.assertEqual(best_tree(Question("01010011")), (0, (2, 0, 1), (1, 0, 1)))
        self.assertEqual(best_tree(Question("00110101")), (0, (1, 0, 1), (2, 0, 1)))
        self.assertEqual(best_tree(Question("00011101")), (1, (0, 0, 1), (2, 0, 1)))


class Next(unittest.TestCase):
    """Point 85."""

    def test_against_all_patterns(self):
        for table in FEW + MORE + SIX[::3]:
            question = Question(table)
            for pattern in some_patterns(table):
                costs = {position: 1 + max(left(table, fixed(pattern, position, bit)) for bit in "01")
                         for position in unknown(pattern)}
                if settled(table)[pattern] is not None:
                    costs = {}
                for spare in (0, 1, 2, 6):
                    wanted = [position for position in costs if costs[position] <= left(table, pattern) + spare]
                    self.assertTrue(same(strategies(question, pattern, spare=spare), wanted))
                self.assertEqual(strategies(question, pattern), strategies(question, pattern, spare=0))
                self.assertEqual(strategies(question, pattern, spare=6), list(costs))

    def test_names(self):
        question = Question("01010011")
        self.assertEqual(strategies(spare=1, pattern="---", question=question), [0, 1, 2])
        with self.assertRaises(TypeError):
            strategies(question, "---", 1)
        strategies(question, "---").clear()
        self.assertEqual(strategies(question, "---"), [0])

    def test_bad_spares(self):
        for spare in NO_WIDTH:
            for pattern in ("--", "01"):
                error, kept = raised(strategies, Question("0110"), pattern, spare=spare)
                self.assertIs(error, BadCount)
                self.assertIs(kept[0], spare)


class Plays(unittest.TestCase):
    """Point 83."""

    def test_the_told_play(self):
        for table in ALL:
            question = Question(table)
            found = play(question)
            self.assertIs(found.__class__, dict)
            for pattern, number in found.items():
                self.assertIn(pattern, settled(table))
                self.assertTrue(number.__class__ is int and number >= 0)
            self.assertTrue(is_plain_play(table, found))
            self.assertEqual(found.get("-" * question.many, 0), fewest(table))
            for count in range(7):
                self.assertIs(is_play(question, found, count), count <= fewest(table))

    def test_a_returned_dict_is_new(self):
        before = play(question=Question("0110"))
        play(Question("0110")).clear()
        self.assertEqual(play(Question("0110")), before)

    def test_numbers_one_more_or_less_and_keys_left_out(self):
        for table in [one for one in FEW if many_of(one) > 1] + MORE[::4]:
            question = Question(table)
            found = play(question)
            whole = "-" * question.many
            for pattern in list(found)[::1 if question.many < 4 else 7]:
                for change in (1, -1, 10 ** 39):
                    other = {**found, pattern: found[pattern] + change}
                    wanted = other[pattern] >= 0 and is_plain_play(table, other)
                    for count in (0, other.get(whole, 0)):
                        if count < 7:
                            self.assertIs(is_play(question, other, count), wanted)
                other = {key: number for key, number in found.items() if key != pattern}
                self.assertIs(is_play(question, other, 0), is_plain_play(table, other))
                self.assertIs(is_play(question, other, other.get(whole, 0)), is_plain_play(table, other))

    def test_all_small_dicts(self):
        for table in ("0110", "0001", "0011", "1111"):
            source = random.Random(83)
            for _ in range(300):
                value = {one: source.choice((0, 0, 1, 1, 2)) for one in source.sample(words("-01", 2), 5)}
                right = is_plain_play(table, value)
                for count in range(4):
                    wanted = right and value.get("--", 0) >= count
                    self.assertIs(is_play(Question(table), value, count), wanted)
                    self.assertLessEqual(right * value.get("--", 0), fewest(table))

    def test_other_keys_and_numbers(self):
        question = Question("0110")
        right = {"--": 2, "0-": 1, "1-": 1, "-0": 1}
        self.assertIs(is_play(question, right, 2), True)
        for key in ("", "-", "---", "0--", "2-", " -", "--------", 0, None, True, ("-", "-"), ("--",)):
            for number in (0, 1, None):
                self.assertIs(is_play(question, {**right, key: number}, 2), False, key)
        for number in (True, False, None, "1", "", -1, -10 ** 39, [1], (1,), {}, Question("0")):
            for key in ("0-", "-1", "01", "--"):
                self.assertIs(is_play(question, {**right, key: number}, 0), False)
        for pattern in ("00", "11"):
            self.assertIs(is_play(question, {**right, pattern: 0}, 2), True)
            self.assertIs(is_play(question, {**right, pattern: 1}, 2), False)
        self.assertIs(is_play(Question("0011"), {"0-": 1}, 0), False)
        self.assertIs(is_play(Question("0011"), {"0-": 0, "--": 1}, 1), True)

    def test_values_that_are_no_dict(self):
        for value in ANY + [[("--", 0)], ["--"], "--"]:
            self.assertIs(is_play(Question("0110"), value, 0), value == {})
            self.assertIs(is_play(Question("0110"), value, 1), False)
        self.assertIs(is_play(count=0, value={}, question=Question("0")), True)

    def test_bad_counts(self):
        for count in NO_WIDTH:
            for value in ({}, None, {"-": True}):
                error, kept = raised(is_play, Question("01"), value, count)
                self.assertIs(error, BadCount)
                self.assertIs(kept[0], count)

    def test_what_is_passed_stays(self):
        value = {"--": 2, "-0": 1, "0-": 1}
        self.assertIs(is_play(Question("0110"), value, 2), True)
        self.assertEqual(list(value.items()), [("--", 2), ("-0", 1), ("0-", 1)])


class Once(unittest.TestCase):
    """The main statement of point 35."""

    def formula(self, source, places):
        if len(places) == 1:
            text = "x" + str(places[0])
        else:
            cut = source.randint(1, len(places) - 1)
            sign = source.choice((" and ", " or "))
            text = "(" + self.formula(source, places[:cut]) + sign + self.formula(source, places[cut:]) + ")"
        return source.choice(("", "", "not ")) + text

    def test_all_positions_are_needed(self):
        source = random.Random(35)
        for _ in range(300):
            places = source.sample(range(6), source.randint(1, 6))
            formula = Formula(self.formula(source, places))
            self.assertIs(formula.is_once(), True)
            idle = "".join("-" if position in places else "0" for position in range(6))
            question = formula.question(6).restricted(idle)
            self.assertEqual(question.many, len(formula.positions()))
            self.assertIs(needs_all(question), True)
