"""Points 7, 153 and 154."""

import random
import unittest
from functools import lru_cache

from leastlooks.errors import BadCount, BadFact, BadInput, NothingToUndo
from leastlooks.guesses import Guesses
from leastlooks.questions import Question
from tests import plain
from tests.samples import ANY, answers, raised, same, words
from tests.test_settling import no_inputs

WORDS = ("yes", "looks", "settling", "sensitivity", "blocks", "degree")


@lru_cache(None)
def number_of(word, table):
    """Point 153: the number of which a fact speaks."""
    texts = list(answers(table))
    if word == "yes":
        return table.count("1")
    if word == "looks":
        return plain.fewest(table)
    if word == "settling":
        return max(plain.sizes(table).values())
    if word == "sensitivity":
        return max(len(plain.positions(table, text)) for text in texts)
    if word == "blocks":
        return max(plain.most_apart(table, text) for text in texts)
    return plain.degree(table)


def fits(table, fact):
    if fact[0] == "answer":
        return answers(table)[fact[1]] == fact[2]
    return number_of(fact[0], table) == fact[1]


def tables(many):
    return words("01", 2 ** many)


class Record:
    """A plain list of all questions that fit, beside an object that is tested."""

    def __init__(self, test, many):
        self.test, self.many, self.told = test, many, []
        self.object = Guesses(many)

    def fitting(self, more=()):
        return [table for table in tables(self.many) if all(fits(table, fact) for fact in [*self.told, *more])]

    def tell(self, fact):
        wanted = bool(self.fitting([fact]))
        self.test.assertIs(self.object.tell(fact), wanted)
        if wanted:
            self.told.append(fact)
        return wanted

    def undo(self):
        if self.told:
            self.told.pop()
            self.test.assertIsNone(self.object.undo())
        else:
            self.test.assertEqual(raised(self.object.undo), (NothingToUndo, ()))

    def check(self):
        test, found = self.test, self.fitting()
        test.assertTrue(same(self.object.facts(), self.told))
        test.assertTrue(same(len(self.object), len(self.told)))
        test.assertTrue(same(self.object.number(), len(found)))
        least = self.object.least()
        test.assertIs(least.__class__, Question)
        test.assertEqual(least.table, found[0])
        for text in words("01", self.many):
            seen = {answers(table)[text] for table in found}
            test.assertTrue(same(self.object.answer(text), seen.pop() if len(seen) == 1 else None))
        every = tables(self.many)
        for table in every[::1 if len(every) < 17 else 17] + found[:3]:
            test.assertIs(Question(table) in self.object, table in found)


def some_fact(source, many):
    """A fact that some question fits, or not."""
    if source.random() < 0.4:
        return "answer", source.choice(words("01", many)), source.randrange(2)
    table = source.choice(tables(many))
    word = source.choice(WORDS)
    return word, source.choice((number_of(word, table),) * 4 + (0, 1, 2, 3, 4, 9, 64))


class Told(unittest.TestCase):
    """Points 153 and 154, beside a plain list."""

    def test_two_objects_by_turns(self):
        for many in range(4):
            source = random.Random(153 + many)
            for _ in range(12):
                both = [Record(self, many), Record(self, many)]
                answered = []
                for _ in range(14):
                    one = source.choice(both)
                    deed = source.random()
                    if deed < 0.25:
                        one.undo()
                    elif deed < 0.35 and one.told:
                        self.assertIs(one.tell(source.choice(one.told)), True)
                    else:
                        answered.append(one.tell(some_fact(source, many)))
                    for record in both:
                        record.check()
                self.assertIn(False, answered + [False] * (many < 2))
                self.assertIn(True, answered)

    def test_each_fact_alone(self):
        for many in range(4):
            for word in WORDS:
                for count in (*range(10), 63, 64):
                    record = Record(self, many)
                    record.tell((word, count))
                    record.check()
            for text in words("01", many):
                for bit in (0, 1):
                    record = Record(self, many)
                    self.assertIs(record.tell(("answer", text, bit)), True)
                    self.assertEqual(record.object.answer(text), bit)
                    self.assertIs(record.tell(("answer", text, 1 - bit)), False)
                    record.check()

    def test_back_to_the_beginning_and_beyond(self):
        for many in range(4):
            record = Record(self, many)
            for fact in [("answer", "0" * many, 1), ("yes", 2 ** many // 2 or 1), ("yes", 2 ** many // 2 or 1)]:
                record.tell(fact)
            self.assertEqual(len(record.object), 3)
            for _ in range(5):
                record.undo()
                record.check()
            self.assertEqual([record.object.number(), record.object.facts()], [2 ** 2 ** many, []])
            record.tell(("degree", 0))
            record.check()

    def test_facts_told_twice_count_twice(self):
        guesses = Guesses(many=2)
        self.assertEqual([guesses.tell(fact=("looks", 2)) for _ in range(3)], [True] * 3)
        self.assertEqual([len(guesses), guesses.facts(), guesses.number()], [3, [("looks", 2)] * 3, 10])
        guesses.undo()
        self.assertEqual([len(guesses), guesses.number()], [2, 10])

    def test_what_is_refused_changes_nothing(self):
        record = Record(self, 2)
        record.tell(("yes", 1))
        for fact in (("looks", 0), ("degree", 64), ("answer", "00", 0), ("answer", "00", 1)):
            record.tell(fact)
            record.check()
        for value in (None, ("yes", 65), ("answer", "0", 1), ["yes", 1], (), ("looks", True)):
            self.assertEqual(raised(record.object.tell, value), (BadFact, (value,)))
            record.check()

    def test_what_is_returned_is_new(self):
        guesses = Guesses(1)
        guesses.tell(("yes", 1))
        guesses.facts().clear()
        guesses.facts().append(("yes", 0))
        self.assertEqual([guesses.facts(), guesses.number()], [[("yes", 1)], 2])


class Members(unittest.TestCase):
    """Point 154, what stands in an object, and answers."""

    def test_other_values(self):
        for many in range(4):
            guesses = Guesses(many)
            for told in range(2):
                for value in ANY + tables(many)[:5] + [words("01", many)]:
                    wanted = value.__class__ is Question and value.many == many and fits(value.table, ("degree", 1))
                    if not told:
                        wanted = value.__class__ is Question and value.many == many
                    self.assertIs(value in guesses, wanted)
                for other in range(7):
                    self.assertIs(Question.parity(other) in guesses, other == many and (not told or many == 1))
                guesses.tell(("degree", 1))
                if many == 0:
                    break

    def test_questions_made_in_other_ways(self):
        guesses = Guesses(3)
        guesses.tell(("yes", 4))
        for question in (Question.parity(3), Question.at_least(3, 2), ~Question.bit_at(3, 1), Question("0110").with_idle(0)):
            self.assertIs(question in guesses, True)
        self.assertIs(Question.at_least(3, 1) in guesses, False)

    def test_answers(self):
        guesses = Guesses(2)
        self.assertEqual([guesses.answer(text=text) for text in words("01", 2)], [None] * 4)
        guesses.tell(("yes", 4))
        self.assertEqual([guesses.answer(text) for text in words("01", 2)], [1] * 4)
        guesses.undo()
        guesses.tell(("yes", 0))
        self.assertEqual([guesses.answer(text) for text in words("01", 2)], [0] * 4)

    def test_bad_inputs(self):
        for many in range(4):
            guesses = Guesses(many)
            for value in no_inputs(many):
                error, kept = raised(guesses.answer, value)
                self.assertIs(error, BadInput)
                self.assertIs(kept[0], value)


class Wrong(unittest.TestCase):
    """Point 153, the errors."""

    def test_bad_counts(self):
        for many in [value for value in ANY if value.__class__ is not int or not 0 <= value <= 3] + [-1, 4, 5, 6]:
            error, kept = raised(Guesses, many)
            self.assertIs(error, BadCount)
            self.assertIs(kept[0], many)

    def check(self, many, value):
        guesses = Guesses(many)
        error, kept = raised(guesses.tell, value)
        self.assertIs(error, BadFact)
        self.assertIs(kept[0], value)
        self.assertEqual([guesses.facts(), len(guesses), guesses.number()], [[], 0, 2 ** 2 ** many])

    def test_any_values(self):
        for many in range(4):
            for value in ANY + list(WORDS) + ["answer", ("yes",), ("answer",), [("yes", 1)], (("yes", 1),), {"yes": 1}]:
                self.check(many, value)

    def test_words_and_counts(self):
        for many in range(4):
            for word in WORDS:
                for count in [True, False, None, -1, 65, 10 ** 39, "1", "", [1], (1,), {}, Question("0")]:
                    self.check(many, (word, count))
                for value in ([word, 1], (word, 1, 1), (word, "0" * many, 1), (1, word), (word,), (word, 1, None)):
                    self.check(many, value)
                self.assertIsNone(raised(Guesses(many).tell, (word, 64)))
            for word in ("", "no", "Yes", "answers", "numbers", "depth", None, 0, True, ["yes"], ("yes",), {}, Question("0")):
                self.check(many, (word, 1))
                self.check(many, (word, "0" * many, 1))

    def test_answers(self):
        for many in range(4):
            text = "0" * many
            for value in no_inputs(many):
                self.check(many, ("answer", value, 1))
            for bit in [True, False, None, 2, -1, "0", "1", [1], (1,), {}, Question("0")]:
                self.check(many, ("answer", text, bit))
            for value in (["answer", text, 1], ("answer", text), ("answer", text, 1, 1), ("answer", 1, text),
                          ("answer", 1), (text, "answer", 1)):
                self.check(many, value)
