"""Points 7, 151 and 152."""

import random
import unittest
from itertools import permutations

from leastlooks.bounds import numbers
from leastlooks.errors import BadBit, BadBlock, BadCount, BadOrder, TooMany, UnlikeSizes
from leastlooks.kinds import change_to, changed, kind_of, kind_size, kinds
from leastlooks.questions import Question
from tests import plain
from tests.plain import EVERY, FEW, MORE, SIX, blocks, fewest, many_of, random_tables
from tests.samples import ANY, answers, flipped, raised, same, words
from tests.test_patterns import NO_BIT

FOUR = [table for table in MORE if many_of(table) == 4]


def plain_changed(table, order, block, flip):
    """Point 151, input by input."""
    every = answers(table)
    found = ""
    for text in every:
        bits = [""] * len(text)
        for at, position in enumerate(order):
            bits[position] = text[at]
        found += str((every[flipped("".join(bits), block)] + flip) % 2)
    return found


def all_changes(many):
    """All changes in ascending order."""
    found = [(order, block, flip) for order in permutations(range(many)) for block in blocks(many) for flip in (0, 1)]
    return sorted(found)


CHANGES = {many: all_changes(many) for many in range(5)}


def plain_kind(table):
    """The tables of all questions of the same kind."""
    return {plain_changed(table, *change) for change in CHANGES[many_of(table)]}


def some_changes(many, count):
    source = random.Random(151 + many)
    for _ in range(count):
        block = source.sample(range(many), source.randint(0, many))
        yield source.sample(range(many), many), block, source.randrange(2)


class Changed(unittest.TestCase):
    """Point 151, the changes."""

    def test_input_by_input(self):
        for table in FEW + MORE + SIX[::3]:
            for order, block, flip in some_changes(many_of(table), 5):
                wanted = plain_changed(table, order, block, flip)
                for given in ((order, block), (tuple(order), tuple(block)), (tuple(order), sorted(block))):
                    question = Question(table)
                    found = changed(question, *given, flip)
                    self.assertIs(found.__class__, Question)
                    self.assertEqual([found.table, question.table], [wanted, table])
                other = Question(table).turned_at(block).reordered(order)
                self.assertEqual(changed(Question(table), order, block, flip), ~other if flip else other)

    def test_by_name_and_without_positions(self):
        found = changed(flip=1, block=[0], order=[1, 0], question=Question("0010"))
        self.assertEqual(found.table, "0111")
        self.assertEqual([changed(Question("0"), [], (), flip).table for flip in (0, 1)], ["0", "1"])

    def test_errors_in_their_order(self):
        question = Question("01100000")
        blocks_given = [None, [0, 0], [3], [True], (1, -1), "01", {}, 0, [0, 1]]
        bits = [None, True, 2, "0", [0], 0, 1]
        for order in [None, [0, 1], [0, 1, 2, 2], [1, 2, 3], [0, 1, True], (0, 0, 1), "012", {}, 3, [0, 1, None], [2, 0, 1]]:
            for block in blocks_given:
                for flip in bits:
                    wanted = (BadOrder, order) if order != [2, 0, 1] else (BadBlock, block) if block != [0, 1] else (
                        BadBit, flip) if flip not in (0, 1) or flip is True else None
                    found = raised(changed, question, order, block, flip)
                    if wanted is None:
                        self.assertIs(found, None)
                    else:
                        self.assertIs(found[0], wanted[0])
                        self.assertIs(found[1][0], wanted[1])

    def check(self, error, value, *given):
        found, kept = raised(changed, *given)
        self.assertIs(found, error)
        self.assertIs(kept[0], value)

    def test_any_values(self):
        question = Question("0110")
        for value in ANY:
            if not (isinstance(value, (list, tuple)) and same(sorted(value, key=str), [0, 1])):
                self.check(BadOrder, value, question, value, None, None)
            if not (isinstance(value, (list, tuple)) and all(same(one, 0) or same(one, 1) for one in value)):
                self.check(BadBlock, value, question, [1, 0], value, None)
        for value in NO_BIT:
            self.check(BadBit, value, question, (0, 1), (), value)

    def test_what_is_passed_stays(self):
        order, block = [2, 0, 1], [2, 0]
        found = changed(Question("00010110"), order, block, 1)
        self.assertEqual([order, block], [[2, 0, 1], [2, 0]])
        before = found.table
        order.reverse()
        block.clear()
        self.assertEqual(found.table, before)


class Leading(unittest.TestCase):
    """Point 151, the first change."""

    def check(self, first, second):
        found = [one for one in CHANGES[many_of(first)] if plain_changed(first, *one) == second]
        wanted = found[0] if found else None
        told = change_to(Question(first), Question(second))
        self.assertTrue(same(told, wanted), (first, second, told))
        if told is not None:
            self.assertEqual(str(changed(Question(first), *told)), second)
        return wanted

    def test_all_pairs_of_up_to_two_positions(self):
        for many in range(3):
            for first in words("01", 2 ** many):
                for second in words("01", 2 ** many):
                    self.check(first, second)

    def test_some_of_three_and_four_positions(self):
        source = random.Random(1510)
        seen = []
        for table in EVERY[22::9] + FOUR[::3]:
            other = plain_changed(table, *source.choice(CHANGES[many_of(table)]))
            seen.append(self.check(table, other))
            at = source.randrange(len(other))
            seen.append(self.check(table, other[:at] + str(1 - int(other[at])) + other[at + 1:]))
        self.assertEqual(seen.count(None), len(seen) // 2)

    def test_by_name(self):
        self.assertEqual(change_to(second=Question("0001"), first=Question("0010")), ((0, 1), (1,), 0))
        self.assertEqual(change_to(Question("1"), Question("0")), ((), (), 1))
        self.assertIs(change_to(Question("0110"), Question("0001")), None)

    def test_errors_in_their_order(self):
        for first in range(7):
            for second in range(7):
                wanted = (UnlikeSizes, (first, second)) if first != second else (TooMany, (first,)) if first > 4 else None
                for one, two in ((Question.parity(first), Question.parity(second)),
                                 (Question.constant(first, 0), Question.constant(second, 1))):
                    self.assertEqual(raised(change_to, one, two), wanted)


class Kinds(unittest.TestCase):
    """Point 152."""

    def test_against_all_changes(self):
        for table in [one for one in EVERY if many_of(one) < 3] + EVERY[22::5] + FOUR[::2] + random_tables(4, 4):
            every = plain_kind(table)
            found = kind_of(Question(table))
            self.assertIs(found.__class__, Question)
            self.assertEqual(found.table, min(every))
            self.assertTrue(same(kind_size(Question(table)), len(every)))
            other = Question(max(every))
            self.assertEqual([kind_of(other), kind_size(other)], [found, len(every)])

    def test_all_kinds(self):
        for many in range(4):
            left, wanted = words("01", 2 ** many), []
            while left:
                wanted.append(left[0])
                every = plain_kind(left[0])
                left = [table for table in left if table not in every]
            found = kinds(many=many)
            self.assertTrue(found.__class__ is list and all(one.__class__ is Question for one in found))
            self.assertEqual([one.table for one in found], wanted)
            self.assertTrue(all(kind_of(one) == one for one in found))
            self.assertEqual(sum(kind_size(one) for one in found), 2 ** 2 ** many)
        self.assertEqual([len(kinds(many)) for many in range(4)], [1, 2, 4, 14])

    def test_the_same_numbers(self):
        source = random.Random(152)
        for table in EVERY[::6] + FOUR[::3]:
            other = plain_changed(table, *source.choice(CHANGES[many_of(table)]))
            told = []
            for one in (table, other, kind_of(Question(table)).table):
                most, settling, sensitivity, apart, high = numbers(Question(one))
                told.append((most, max(settling), max(sensitivity), max(apart), high))
                self.assertEqual([most, max(settling), high],
                                 [fewest(one), max(plain.sizes(one).values()), plain.degree(one)])
            self.assertEqual(len(set(told)), 1)

    def test_too_many(self):
        for many in (5, 6):
            for question in (Question.parity(many), Question.constant(many, 1)):
                for deed in (kind_of, kind_size):
                    self.assertEqual(raised(deed, question), (TooMany, (many,)))

    def test_bad_counts(self):
        for many in [value for value in ANY if value.__class__ is not int or not 0 <= value <= 3] + [-1, 4, 5, 6, 7]:
            error, kept = raised(kinds, many)
            self.assertIs(error, BadCount)
            self.assertIs(kept[0], many)

    def test_what_is_returned_is_new(self):
        kinds(2).clear()
        self.assertEqual([str(one) for one in kinds(2)], ["0000", "0001", "0011", "0110"])
