"""Points 7 and 121 to 124."""

import random
import unittest
from functools import lru_cache
from itertools import product

from leastlooks.errors import BadCount, BadPosition, BadTold, NoneLeft, TooMany
from leastlooks.lies import hard_bit, lie_looks, next_looks, open_inputs, told_answer
from leastlooks.questions import Question
from tests.plain import EVERY, fewest, many_of
from tests.samples import ANY, answers, raised, same, words

TWO = [table for table in EVERY if many_of(table) < 3]
THREE = ["01101001", "00010111", "01010011", "00000001", "00011000", "01111110", "00001111", "11111111"]
LOOKING = (told_answer, lie_looks, next_looks)


def looks_of(many):
    """All tuples (position, bit)."""
    return list(product(range(many), (0, 1)))


def some_told(many, source):
    """Lists of told bits, with repeated and contradicting looks among them."""
    every = looks_of(many)
    found = [list(one) for count in range(3) for one in product(every, repeat=count)]
    if every:
        found += [[source.choice(every) for _ in range(source.randint(3, 6))] for _ in range(8)]
        found += [[every[0]] * 5, [every[0], every[1]] * 2, every + every[:2]]
    return found


def wrongs(many, told):
    """How many told bits each input does not have."""
    return tuple(sum(text[position] != str(bit) for position, bit in told) for text in words("01", many))


def plain_open(many, lies, told):
    return [text for text, wrong in zip(words("01", many), wrongs(many, told)) if wrong <= lies]


@lru_cache(None)
def behind(many, lies, state, position, bit):
    """What is wrong behind a look, or None if no input stays open."""
    found = tuple(wrong + (text[position] != str(bit)) for text, wrong in zip(words("01", many), state))
    # More wrong bits than make an input not open are all alike.
    return tuple(min(wrong, lies + 1) for wrong in found) if min(found) <= lies else None


@lru_cache(None)
def enough(table, lies, state, count):
    """Whether so many looks are enough, whatever they tell."""
    if len({answer for answer, wrong in zip(table, state) if wrong <= lies}) == 1:
        return True
    return count > 0 and any(works(table, lies, state, count, position) for position in range(many_of(table)))


def works(table, lies, state, count, position):
    """Whether so many looks are enough, of which the next one is at a position."""
    ways = [behind(many_of(table), lies, state, position, bit) for bit in (0, 1)]
    return all(enough(table, lies, one, count - 1) for one in ways if one is not None)


@lru_cache(None)
def plain_looks(table, lies, state):
    """Point 123: the least number of further looks."""
    return next(count for count in range(99) if enough(table, lies, state, count))


def plain_state(table, lies, told):
    return tuple(min(wrong, lies + 1) for wrong in wrongs(many_of(table), told))


def plain_next(table, lies, state):
    count = plain_looks(table, lies, state)
    if count == 0:
        return []
    return [position for position in range(many_of(table)) if works(table, lies, state, count, position)]


def plain_hard(table, lies, state, position):
    """Point 124."""
    ways = [behind(many_of(table), lies, state, position, bit) for bit in (0, 1)]
    counts = [-1 if one is None else plain_looks(table, lies, one) for one in ways]
    return 1 if counts[1] > counts[0] else 0


class Open(unittest.TestCase):
    """Points 121 and 122."""

    def test_open_inputs(self):
        source = random.Random(121)
        for many in range(4):
            for told in some_told(many, source):
                for lies in (0, 1, 2):
                    wanted = plain_open(many, lies, told)
                    for given in (told, tuple(told)):
                        if wanted:
                            self.assertTrue(same(open_inputs(many, lies, given), wanted))
                        else:
                            self.assertEqual(raised(open_inputs, many, lies, given), (NoneLeft, ()))

    def test_told_answers(self):
        source = random.Random(122)
        for table in TWO + THREE:
            for told in some_told(many_of(table), source):
                for lies in (0, 1, 2):
                    seen = {answers(table)[text] for text in plain_open(many_of(table), lies, told)}
                    if seen:
                        wanted = seen.pop() if len(seen) == 1 else None
                        self.assertTrue(same(told_answer(Question(table), lies, tuple(told)), wanted))

    def test_names_and_new_lists(self):
        self.assertEqual(open_inputs(told=[(0, 1), (1, 0)], lies=1, many=2), ["00", "10", "11"])
        self.assertEqual(told_answer(told=((0, 1), (0, 1)), lies=1, question=Question("01")), 1)
        open_inputs(2, 0, []).clear()
        self.assertEqual(open_inputs(2, 0, ()), ["00", "01", "10", "11"])
        self.assertEqual(open_inputs(0, 0, []), [""])


class Wrong(unittest.TestCase):
    """Point 121, the errors."""

    def calls(self, many, lies, told):
        """What each function raises, as (class, attributes)."""
        question = Question.constant(many, 0) if many < 7 else None
        found = [raised(open_inputs, many, lies, told)]
        if question is not None:
            found += [raised(deed, question, lies, told) for deed in LOOKING]
            # A position that is none, too, counts behind all other errors.
            found += [raised(hard_bit, question, lies, told, position) for position in (0, -1, None, True)]
        return found

    def check(self, many, lies, told, error, value):
        for found, kept in self.calls(many, lies, told):
            self.assertIs(found, error)
            self.assertIs(kept[0], value)

    def test_too_many_ahead_of_all_others(self):
        for many in (4, 5, 6, 7, 10 ** 39):
            for lies in (0, 3, True, None):
                for told in ([], [(0, 0), (0, 1)], None, [(9, 9)]):
                    for found in self.calls(many, lies, told):
                        self.assertEqual(found, (TooMany, (many,)))

    def test_bad_counts_ahead_of_what_was_told(self):
        for many in (0, 1, 3):
            for lies in [-1, 3, True, False, None, "1", "", [1], (1,), {}, 10 ** 39, Question("0")]:
                for told in ([], [(0, 0), (0, 1)], None, [(9, 9)]):
                    self.check(many, lies, told, BadCount, lies)

    def test_values_that_are_no_list_of_told_bits(self):
        for many in (1, 2, 3):
            for told in [value for value in ANY if value not in ([], ())] + [(0, 1), [0, 1], "01", {(0, 1): 1}]:
                for lies in (0, 2):
                    self.check(many, lies, told, BadTold, told)

    def test_wrong_items(self):
        for many in (1, 2, 3):
            wrong = [[0, 1], (0,), (0, 1, 1), (), (many, 0), (-1, 0), (10 ** 39, 0), (True, 0), (False, 1), (0, True),
                     (0, False), (0, 2), (0, -1), (0, None), (None, 0), ("0", 0), (0, "0"), ((0, 1),), ([0], 0), (0, [1]),
                     None, 0, True, "01", {}, {0: 1, 1: 1}, Question("01")]
            for one in wrong:
                for told in ([one], (one,), [(0, 1), one], [one, (0, 1)], [(0, 0), (0, 1), (0, 0), (0, 1), one]):
                    self.check(many, 0, told, BadTold, told)
                    self.check(many, 2, told, BadTold, told)

    def test_without_positions(self):
        for told in ([(0, 0)], [(0, 1)], ((0, 0),), [()], [[]], [None]):
            self.check(0, 1, told, BadTold, told)
        for deed in LOOKING:
            self.assertIs(raised(deed, Question("1"), 1, []), None)

    def test_none_left(self):
        for many in (1, 2, 3):
            for lies in (0, 1, 2):
                told = [(many - 1, bit) for bit in (0, 1)] * (lies + 1)
                for given in (told, tuple(told)):
                    for found in self.calls(many, lies, given):
                        self.assertEqual(found, (NoneLeft, ()))
                # With one look less some input is open.
                self.assertIs(raised(lie_looks, Question.parity(many), lies, told[1:]), None)

    def test_bad_positions_behind_the_others(self):
        for many in (0, 1, 2, 3):
            question = Question.parity(many)
            for position in ANY + [many, -1, 10 ** 39]:
                if position.__class__ is int and 0 <= position < many:
                    continue
                for told in ([], [(0, 1)] if many else ()):
                    error, kept = raised(hard_bit, question, 1, told, position)
                    self.assertIs(error, BadPosition)
                    self.assertIs(kept[0], position)


class Search(unittest.TestCase):
    """Points 123 and 124, against a plain search of the game."""

    def check(self, table, lies, told):
        question = Question(table)
        state = plain_state(table, lies, told)
        if min(state) > lies:
            self.assertEqual(raised(lie_looks, question, lies, told), (NoneLeft, ()))
            return
        before = list(told)
        self.assertTrue(same(lie_looks(question, lies, told), plain_looks(table, lies, state)))
        self.assertTrue(same(next_looks(question, lies, tuple(told)), plain_next(table, lies, state)))
        for position in range(many_of(table)):
            wanted = plain_hard(table, lies, state, position)
            self.assertTrue(same(hard_bit(question, lies, told, position), wanted), (table, lies, told, position))
        self.assertEqual(told, before)

    def test_all_questions_of_up_to_two_positions(self):
        source = random.Random(123)
        for table in TWO:
            for lies in (0, 1, 2):
                for told in some_told(many_of(table), source):
                    self.check(table, lies, told)

    def test_some_of_three_positions(self):
        source = random.Random(1230)
        for table in THREE + EVERY[30::29]:
            for lies in (0, 1, 2):
                for told in some_told(3, source)[::4]:
                    self.check(table, lies, told)

    def test_nothing_told(self):
        for table in TWO + THREE:
            question = Question(table)
            for lies in (0, 1, 2):
                state = plain_state(table, lies, [])
                for found in (lie_looks(question, lies), lie_looks(question, lies, ()), lie_looks(question, lies, [])):
                    self.assertTrue(same(found, plain_looks(table, lies, state)))
                self.assertTrue(same(next_looks(question, lies), plain_next(table, lies, state)))

    def test_constant_questions(self):
        for many in range(4):
            for answer in (0, 1):
                question = Question.constant(many, answer)
                for lies in (0, 1, 2):
                    self.assertEqual([lie_looks(question, lies), next_looks(question, lies)], [0, []])
                    self.assertEqual(told_answer(question, lies, []), answer)
                    for position in range(many):
                        self.assertEqual(hard_bit(question, lies, [], position), 0)

    def test_a_bit_that_leaves_nothing_open(self):
        question = Question("0110")
        self.assertEqual([hard_bit(question, 0, [(0, bit)], 0) for bit in (0, 1)], [0, 1])
        self.assertEqual([hard_bit(question, 1, [(0, bit)] * 2, 0) for bit in (0, 1)], [0, 1])
        self.assertEqual(hard_bit(position=1, told=((1, 1),), lies=0, question=question), 1)

    def test_names_and_new_lists(self):
        question = Question("0001")
        self.assertEqual(lie_looks(told=[(0, 1)], lies=1, question=question), lie_looks(question, 1, ((0, 1),)))
        before = next_looks(told=(), lies=1, question=question)
        next_looks(question, 1).clear()
        self.assertEqual([next_looks(question, 1), before], [[0, 1], [0, 1]])


class Games(unittest.TestCase):
    """The main statements of points 123 and 124."""

    def test_bounds(self):
        for table in EVERY:
            question = Question(table)
            found = [lie_looks(question, lies) for lies in (0, 1, 2)]
            self.assertEqual(found[0], fewest(table))
            self.assertEqual(found, sorted(found))
            for lies in (0, 1, 2):
                self.assertLessEqual(found[lies], (2 * lies + 1) * fewest(table))

    def all_hard(self, table, lies, most):
        """The rows of told bits that hard bits make before the end, for all choices of positions, less alike ones."""
        rows = [()]
        for _ in range(most):
            yield from rows
            found = {}
            for told in rows:
                for position in range(many_of(table)):
                    bit = hard_bit(Question(table), lies, told, position)
                    found[tuple(sorted(told + ((position, bit),)))] = True
            rows = list(found)

    def test_hard_bits_force_the_looks(self):
        for table in TWO + THREE[:5]:
            for lies in (0, 1, 2) if many_of(table) < 3 else (0, 1):
                question = Question(table)
                for told in self.all_hard(table, lies, lie_looks(question, lies)):
                    self.assertIs(told_answer(question, lies, told), None)

    def play(self, table, lies, told, seen):
        """The most looks that next looks make, whatever they tell."""
        key = tuple(sorted(told))
        if key not in seen:
            question = Question(table)
            choices = next_looks(question, lies, told)
            self.assertEqual(choices == [], told_answer(question, lies, told) is not None)
            counts = []
            for position in choices:
                ways = [told + ((position, bit),) for bit in (0, 1) if plain_open(
                    many_of(table), lies, told + ((position, bit),))]
                counts.append(1 + max(self.play(table, lies, one, seen) for one in ways))
            self.assertEqual(len(set(counts)), min(1, len(choices)))
            seen[key] = counts[0] if counts else 0
        return seen[key]

    def test_next_looks_come_to_the_end(self):
        for table in TWO[::2] + THREE[:3]:
            for lies in (0, 1, 2) if many_of(table) < 3 else (0, 1):
                self.assertEqual(self.play(table, lies, (), {}), lie_looks(Question(table), lies))
