"""Points 7 and 161 to 163."""

import random
import unittest
from itertools import permutations

from leastlooks.asker import Asker
from leastlooks.errors import (
    BadBit, BadPosition, Looked, LooksError, NothingToRedo, NothingToUndo, NotSettled)
from leastlooks.questions import Question
from tests.plain import EVERY, FEW, MORE, SIX, fewest, fixed, left, many_of, settled, unknown
from tests.samples import ANY, raised, same
from tests.test_patterns import NO_BIT, no_positions


class Stop(BaseException):
    """An error that is none of the package, and not even an Exception."""


def state(asker):
    """All that can be seen of the looks, those that can be made again too."""
    pattern, order = asker.known_pattern, asker.order()
    again = []

    def make_again(held):
        while raised(held.redo) is None:
            again.append(held.known_pattern)
    asker.tried(make_again)
    assert [asker.known_pattern, asker.order()] == [pattern, order]
    return pattern, order, again


class Record:
    """A plain record of the looks beside an object that is tested."""

    def __init__(self, test, question):
        self.test, self.question, self.made, self.back = test, question, [], []
        self.object = Asker(question)

    def pattern(self):
        found = "-" * self.question.many
        for position, bit in self.made:
            found = fixed(found, position, str(bit))
        return found

    def look(self, position, bit):
        if position in [place for place, _ in self.made]:
            self.test.assertEqual(raised(self.object.look, position, bit), (Looked, (position,)))
            return
        self.test.assertIsNone(self.object.look(position, bit))
        self.made.append((position, bit))
        self.back = []

    def undo(self):
        if not self.made:
            self.test.assertEqual(raised(self.object.undo), (NothingToUndo, ()))
            return
        self.test.assertIsNone(self.object.undo())
        self.back.append(self.made.pop())

    def redo(self):
        if not self.back:
            self.test.assertEqual(raised(self.object.redo), (NothingToRedo, ()))
            return
        self.test.assertIsNone(self.object.redo())
        self.made.append(self.back.pop())

    def check(self):
        test, asker, pattern, table = self.test, self.object, self.pattern(), self.question.table
        test.assertIs(asker.about, self.question)
        test.assertTrue(same(asker.known_pattern, pattern))
        test.assertTrue(same(asker.order(), [position for position, _ in self.made]))
        test.assertTrue(same(len(asker), len(self.made)))
        if settled(table)[pattern] is None:
            test.assertEqual(raised(asker.answer), (NotSettled, (pattern,)))
        else:
            test.assertTrue(same(asker.answer(), settled(table)[pattern]))
        test.assertTrue(same(asker.needed(), left(table, pattern)))
        test.assertTrue(same(asker.best(), plain_best(table, pattern)))
        for position in range(self.question.many):
            if pattern[position] == "-":
                test.assertTrue(same(asker.reply(position), plain_reply(table, pattern, position)))
            else:
                test.assertEqual(raised(asker.reply, position), (Looked, (position,)))


def behind(table, pattern, position):
    return [left(table, fixed(pattern, position, bit)) for bit in "01"]


def plain_best(table, pattern):
    """Point 162."""
    if settled(table)[pattern] is not None:
        return None
    return min((1 + max(behind(table, pattern, position)), position) for position in unknown(pattern))[1]


def plain_reply(table, pattern, position):
    low, high = behind(table, pattern, position)
    return 1 if high > low else 0


class Looking(unittest.TestCase):
    """Points 161 and 162, beside a plain record."""

    def test_two_askers_by_turns(self):
        for table in FEW[::2] + MORE[::4] + SIX[::6]:
            source = random.Random(161)
            question = Question(table)
            both = [Record(self, question), Record(self, question)]
            for _ in range(30):
                one = source.choice(both)
                deed = source.random()
                if deed < 0.45 and question.many:
                    one.look(source.randrange(question.many), source.randrange(2))
                elif deed < 0.75:
                    one.undo()
                else:
                    one.redo()
                for record in both:
                    record.check()

    def test_at_first(self):
        for table in EVERY[::5] + MORE:
            record = Record(self, Question(table))
            record.check()
            record.undo()
            record.redo()
            record.check()
            self.assertEqual([record.object.known_pattern, len(record.object)], ["-" * many_of(table), 0])

    def test_undo_and_redo_as_often_as_wanted(self):
        record = Record(self, Question("0110100110010110"))
        for position, bit in ((2, 1), (0, 0), (3, 1), (1, 0)):
            record.look(position, bit)
        for deed in (record.undo,) * 5 + (record.redo,) * 5 + (record.undo,) * 2 + (record.redo,) + (record.undo,) * 2:
            deed()
            record.check()
        self.assertEqual([record.object.known_pattern, record.object.order()], ["--1-", [2]])
        record.look(3, 0)
        record.redo()
        record.check()
        self.assertEqual([record.object.known_pattern, record.object.order()], ["--10", [2, 3]])

    def test_by_name(self):
        question = Question("0110")
        asker = Asker(question=question)
        self.assertIsNone(asker.look(bit=1, position=0))
        self.assertEqual([asker.reply(position=1), asker.about is question, asker.tried(deed=len)], [0, True, 1])

    def test_what_is_returned_is_new(self):
        asker = Asker(Question("0110"))
        asker.look(1, 0)
        asker.order().clear()
        self.assertEqual([asker.order(), asker.known_pattern, len(asker)], [[1], "-0", 1])


class Wrong(unittest.TestCase):
    """Points 161 and 162, the errors; nothing changes behind them."""

    def check(self, asker, error, value, deed, *given):
        before = state(asker)
        found, kept = raised(deed, *given)
        self.assertIs(found, error)
        self.assertIs(kept[0], value)
        self.assertEqual(state(asker), before)

    def askers(self, many):
        """An asker at the beginning, and one at which a look can be made again."""
        first, second = Asker(Question.parity(many)), Asker(Question.parity(many))
        if many > 1:
            second.look(many - 1, 1)
            second.look(0, 0)
            second.undo()
        return first, second

    def test_bad_positions_ahead_of_the_others(self):
        for many in (0, 1, 2, 3, 6):
            for asker in self.askers(many):
                for position in no_positions(many) + [one for one in ANY if one.__class__ is not int]:
                    for bit in (0, 1, 2, None, True):
                        self.check(asker, BadPosition, position, asker.look, position, bit)
                    self.check(asker, BadPosition, position, asker.reply, position)

    def test_bad_bits_ahead_of_looked(self):
        for many in (1, 2, 3, 6):
            for asker in self.askers(many):
                for bit in NO_BIT:
                    for position in range(many):
                        self.check(asker, BadBit, bit, asker.look, position, bit)

    def test_looked(self):
        for many in (2, 3, 6):
            _, asker = self.askers(many)
            for bit in (0, 1):
                self.check(asker, Looked, many - 1, asker.look, many - 1, bit)
            self.check(asker, Looked, many - 1, asker.reply, many - 1)
            self.assertEqual(state(asker)[2], ["0" + "-" * (many - 2) + "1"])

    def test_nothing_there(self):
        for many in (0, 2, 3):
            first, second = self.askers(many)
            self.assertEqual([raised(first.undo), raised(first.redo)], [(NothingToUndo, ()), (NothingToRedo, ())])
            self.assertEqual(state(first), ("-" * many, [], []))
            if many:
                second.redo()
                self.assertEqual(raised(second.redo), (NothingToRedo, ()))
                self.assertEqual(second.order(), [many - 1, 0])

    def test_not_settled(self):
        asker = Asker(Question("0111"))
        for position, bit in ((1, 0), (0, 1)):
            before = state(asker)
            self.assertEqual(raised(asker.answer), (NotSettled, (asker.known_pattern,)))
            self.assertEqual(state(asker), before)
            asker.look(position, bit)
        self.assertEqual(asker.answer(), 1)


class Games(unittest.TestCase):
    """The main statements of point 162, by all choices."""

    def forced(self, asker):
        """The fewest looks to the end if each one tells the bit of `reply`, whatever positions are chosen."""
        if raised(asker.answer) is None:
            return 0
        counts = []
        for position in [at for at, letter in enumerate(asker.known_pattern) if letter == "-"]:
            asker.look(position, asker.reply(position))
            counts.append(1 + self.forced(asker))
            asker.undo()
        return min(counts)

    def longest(self, asker):
        """The most looks to the end if each one is at `best`, whatever they tell."""
        position = asker.best()
        if position is None:
            asker.answer()
            return 0
        counts = []
        for bit in (0, 1):
            asker.look(position, bit)
            counts.append(1 + self.longest(asker))
            asker.undo()
        return max(counts)

    def test_up_to_three_positions(self):
        for table in EVERY:
            asker = Asker(Question(table))
            self.assertEqual([self.forced(asker), self.longest(asker)], [fewest(table)] * 2)
            self.assertEqual(len(asker), 0)

    def test_some_of_four_to_six_positions(self):
        for table in MORE[::3] + SIX[::6]:
            asker = Asker(Question(table))
            self.assertEqual(self.longest(asker), fewest(table))
            if many_of(table) < 6:
                self.assertEqual(self.forced(asker), fewest(table))
        for table in SIX[::3]:
            for order in list(permutations(range(6)))[::71]:
                asker = Asker(Question(table))
                for position in order:
                    if raised(asker.answer) is not None:
                        asker.look(position, asker.reply(position))
                self.assertGreaterEqual(len(asker), fewest(table))


class Trials(unittest.TestCase):
    """Point 163."""

    def asker(self):
        """An asker with two looks, and two more that can be made again."""
        asker = Asker(Question("0110100110010110"))
        for position, bit in ((2, 1), (0, 0), (3, 1), (1, 1)):
            asker.look(position, bit)
        asker.undo()
        asker.undo()
        return asker

    def deeds(self):
        """Functions that change an asker in many ways."""
        def looking(held):
            held.look(1, 0)
            held.look(3, 0)

        def back(held):
            while len(held):
                held.undo()

        def again(held):
            held.redo()
            held.redo()
            held.undo()

        def otherwise(held):
            back(held)
            held.look(3, 1)
            held.look(2, 0)
            held.undo()

        def within(held):
            held.undo()
            before = state(held)
            assert held.tried(otherwise) is None and state(held) == before
            held.tried(lambda inner: inner.tried(back))
            assert state(held) == before
            held.redo()
            held.redo()

        return [looking, back, again, otherwise, within, lambda held: None, state]

    def test_all_is_as_before(self):
        for deed in self.deeds():
            asker = self.asker()
            before = state(asker)
            self.assertEqual(before, ("0-1-", [2, 0], ["0-11", "0111"]))
            asker.tried(deed)
            self.assertEqual(state(asker), before)
            # What can be made again is made again in the old order, and taken back, too.
            asker.redo()
            self.assertEqual([asker.known_pattern, asker.order()], ["0-11", [2, 0, 3]])
            asker.undo()
            asker.undo()
            self.assertEqual(state(asker), ("--1-", [2], ["0-1-", "0-11", "0111"]))

    def test_deeds_do_something(self):
        for deed in self.deeds()[:5]:
            asker = self.asker()
            before = state(asker)
            deed(asker)
            self.assertNotEqual(state(asker), before)

    def test_the_very_object_is_returned(self):
        asker = self.asker()
        for value in ANY + [[], {}, object(), Stop]:
            self.assertIs(asker.tried(lambda held: value), value)
        self.assertIs(asker.tried(lambda held: held), asker)
        given = []
        asker.tried(given.append)
        self.assertIs(given[0], asker)

    def test_the_very_error_comes_out(self):
        for error in (LooksError(), NotSettled("0-1-"), KeyError("x"), ValueError(), ZeroDivisionError(), Stop()):
            for deed in self.deeds():
                asker = self.asker()
                before = state(asker)

                def fails(held):
                    deed(held)
                    raise error
                for trial in (fails, lambda held: held.tried(fails)):
                    with self.assertRaises(error.__class__) as caught:
                        asker.tried(trial)
                    self.assertIs(caught.exception, error)
                    self.assertEqual(state(asker), before)

    def test_errors_of_the_asker_itself(self):
        asker = self.asker()
        before = state(asker)
        for deed, wanted in ((lambda held: held.look(0, 1), (Looked, (0,))),
                             (lambda held: held.look(1, 1) or held.look(4, 1), (BadPosition, (4,))),
                             (lambda held: held.undo() or held.answer(), (NotSettled, ("--1-",))),
                             (lambda held: held.look(1, 1) or held.redo(), (NothingToRedo, ())),
                             (lambda held: [held.undo() for _ in range(3)], (NothingToUndo, ()))):
            self.assertEqual(raised(asker.tried, deed), wanted)
            self.assertEqual(state(asker), before)

    def test_an_error_that_is_caught_within(self):
        asker = self.asker()
        before = state(asker)

        def deed(held):
            held.undo()
            inside = state(held)
            try:
                held.tried(lambda inner: inner.look(1, 1) or inner.look(1, 1))
            except Looked:
                assert state(held) == inside
            return inside
        self.assertEqual(asker.tried(deed), ("--1-", [2], ["0-1-", "0-11", "0111"]))
        self.assertEqual(state(asker), before)

    def test_two_askers_and_numbers_within(self):
        first, second = self.asker(), self.asker()

        def deed(held):
            second.undo()
            held.look(1, 1)
            return held.needed(), held.best(), held.reply(3), second.needed()
        self.assertEqual(first.tried(deed), (1, 3, 0, 3))
        self.assertEqual([first.order(), second.order()], [[2, 0], [2]])
