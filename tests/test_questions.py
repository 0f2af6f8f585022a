"""Points 3, 4, 7 and 21 to 27."""

import copy
import random
import unittest
from itertools import permutations

from leastlooks.errors import (
    BadBit, BadBlock, BadCount, BadInput, BadOrder, BadPattern, BadPosition, BadTable, TooMany, UnlikeSizes)
from leastlooks.formulas import Formula
from leastlooks.questions import Question
from tests.samples import ANY, answers, fits, flipped, raised, same, some_tables, words
from tests.test_patterns import NO_BIT, no_blocks, no_positions

SMALL = [table for many in range(4) for table in words("01", 2 ** many)]
LARGE = [table for many in (4, 5, 6) for table in some_tables(many, 8)]
SOME = [table for many in range(4) for table in some_tables(many, 6) if len(table) == 2 ** many] + LARGE
NO_COUNT = [None, True, False, -1, 7, 8, 10 ** 39, -10 ** 39, "2", "", [], [2], (2,), {}, {2: 2}]


def table_by(many, deed):
    """The table of the answers that a function gives, in ascending order of the inputs."""
    return "".join("1" if deed(text) else "0" for text in words("01", many))


class Making(unittest.TestCase):
    """Point 21."""

    def test_tables_of_all_lengths(self):
        for many in range(7):
            for table in some_tables(many, 12):
                question = Question(table)
                self.assertTrue(same([question.table, question.many, str(question)], [table, many, table]))
                self.assertEqual(Question(table=table).table, table)

    def test_other_lengths(self):
        for length in list(range(130)) + [256, 1024, 2000]:
            for letter in "01":
                found = raised(Question, letter * length)
                wanted = None if length in (1, 2, 4, 8, 16, 32, 64) else (BadTable, (letter * length,))
                self.assertEqual(found, wanted)

    def test_other_characters(self):
        for code in range(32, 127):
            letter = chr(code)
            for table in (letter, letter + "0", "1" + letter, "00" + letter + "1", "0" * 63 + letter):
                self.assertEqual(raised(Question, table), None if letter in "01" else (BadTable, (table,)))

    def test_other_kinds(self):
        for value in ANY + [["0", "1"], ("0", "1"), ["01"], 10, [0, 1]]:
            if not (isinstance(value, str) and value in ("0", "1", "01")):
                error, kept = raised(Question, value)
                self.assertIs(error, BadTable)
                self.assertIs(kept[0], value)

    def test_table_and_many_cannot_be_assigned(self):
        question = Question("0110")
        for name in ("table", "many"):
            with self.assertRaises(AttributeError):
                setattr(question, name, "1")
        self.assertEqual([question.table, question.many], ["0110", 2])

    def test_equal_questions(self):
        every = [word for length in (1, 2, 4) for word in words("01", length)] + LARGE
        for first in every:
            for second in every:
                self.assertIs(Question(first) == Question(second), first == second)
                self.assertIs(Question(first) != Question(second), first != second)

    def test_values_of_other_kinds(self):
        question = Question("01")
        others = [value for value in ANY if not isinstance(value, Question)]
        for value in others + ["01", ["01"], ("01",), [question], {"table": "01"}, Formula("x0")]:
            self.assertIs(question == value, False)
            self.assertIs(question != value, True)
            self.assertIs(value == question, False)
            self.assertIs(value != question, True)


class Answers(unittest.TestCase):
    """Point 22."""

    def test_the_table_tells_all(self):
        for table in SMALL + LARGE:
            question = Question(table)
            every = answers(table)
            yes = [text for text in every if every[text]]
            self.assertTrue(same([question(text) for text in every], list(every.values())))
            self.assertEqual(len(question), len(yes))
            self.assertEqual(list(question), yes)
            self.assertEqual([text for text in question], yes)
            for text in every:
                self.assertIs(text in question, text in yes)

    def test_iterating_twice_at_once(self):
        question = Question("0111")
        self.assertEqual([(a, b) for a in question for b in question][:4],
                         [("01", "01"), ("01", "10"), ("01", "11"), ("10", "01")])

    def test_a_list_of_the_yes_inputs_is_new(self):
        question = Question("0111")
        list(question).clear()
        self.assertEqual([len(question), list(question)], [3, ["01", "10", "11"]])

    def test_bad_inputs(self):
        for many in range(7):
            question = Question("1" * 2 ** many)
            self.assertEqual(question(text="0" * many), 1)
            others = [word for length in range(8) for word in words("01", length)[:3] if length != many]
            for value in ANY + others + ["-" * many, "0" * many + " ", ["0"] * many, ("0",) * many]:
                if isinstance(value, str) and len(value) == many and set(value) <= set("01"):
                    continue
                error, kept = raised(question, value)
                self.assertIs(error, BadInput)
                self.assertIs(kept[0], value)
                self.assertIs(value in question, False)


class Signs(unittest.TestCase):
    """Point 23."""

    def check(self, first, second):
        one, two = Question(first), Question(second)
        pairs = [(int(a), int(b)) for a, b in zip(first, second)]
        self.assertEqual((one & two).table, "".join(str(a & b) for a, b in pairs))
        self.assertEqual((one | two).table, "".join(str(a | b) for a, b in pairs))
        self.assertEqual((one ^ two).table, "".join(str(a ^ b) for a, b in pairs))
        self.assertEqual([one.table, two.table], [first, second])

    def test_alike_numbers_of_positions(self):
        for length in (1, 2, 4):
            for first in words("01", length):
                for second in words("01", length):
                    self.check(first, second)
        for many in (3, 4, 5, 6):
            for first in some_tables(many, 9):
                for second in some_tables(many, 11):
                    self.check(first, second)

    def test_unlike_numbers_of_positions(self):
        for first in range(7):
            for second in range(7):
                one, two = Question("0" * 2 ** first), Question("1" * 2 ** second)
                wanted = None if first == second else (UnlikeSizes, (first, second))
                self.assertEqual(raised(lambda: one & two), wanted)
                self.assertEqual(raised(lambda: one | two), wanted)
                self.assertEqual(raised(lambda: one ^ two), wanted)

    def test_the_other_answers(self):
        for table in SMALL + LARGE:
            question = Question(table)
            self.assertEqual((~question).table, table.translate({48: "1", 49: "0"}))
            self.assertEqual((~~question).table, table)
            self.assertEqual(question.table, table)
            self.assertIsInstance(~question, Question)


class Restricting(unittest.TestCase):
    """Points 3 and 24."""

    def check(self, table, pattern):
        question = Question(table)
        every = answers(table)
        found = [every[text] for text in every if fits(text, pattern)]
        self.assertTrue(same(question.settled(pattern), found[0] if len(set(found)) == 1 else None))
        rest = question.restricted(pattern)
        self.assertEqual(rest.many, pattern.count("-"))
        for text in words("01", rest.many):
            bits = iter(text)
            whole = "".join(next(bits) if letter == "-" else letter for letter in pattern)
            self.assertEqual(rest(text), every[whole])
        self.assertEqual(question.table, table)

    def test_every_pattern(self):
        for table in SMALL[::3] + LARGE[:10]:
            for pattern in words("-01", Question(table).many):
                self.check(table, pattern)
        for table in some_tables(6, 5)[3:]:
            for pattern in words("-01", 6)[::5] + ["------", "111111"]:
                self.check(table, pattern)

    def test_names_and_no_positions(self):
        self.assertEqual(Question("0111").settled(pattern="1-"), 1)
        self.assertEqual(Question("0111").restricted(pattern="0-").table, "01")
        self.assertTrue(same([Question("1").settled(""), Question("0").settled("")], [1, 0]))
        self.assertEqual(Question("1").restricted("").table, "1")

    def test_bad_patterns(self):
        for many in range(7):
            question = Question("01" * (2 ** many // 2) or "0")
            others = [word for length in range(8) for word in ("-" * length, "0" * length) if length != many]
            for value in ANY + others + ["x" * many, ["-"] * many]:
                if isinstance(value, str) and len(value) == many and set(value) <= set("-01"):
                    continue
                for deed in (question.settled, question.restricted):
                    error, kept = raised(deed, value)
                    self.assertIs(error, BadPattern)
                    self.assertIs(kept[0], value)


class Changing(unittest.TestCase):
    """Points 4 and 25."""

    def test_turned_at(self):
        for table in SOME:
            question = Question(table)
            every = answers(table)
            for count in range(min(question.many, 3) + 1):
                for block in permutations(range(question.many), count):
                    wanted = "".join(str(every[flipped(text, block)]) for text in every)
                    self.assertEqual(question.turned_at(list(block)).table, wanted)
                    self.assertEqual(question.turned_at(block=block).table, wanted)
            whole = list(range(question.many))
            self.assertEqual(question.turned_at(whole).table, table[::-1])
            self.assertEqual([question.table, question.turned_at(()).table], [table, table])

    def test_bad_blocks(self):
        for many in (2, 3, 6):
            for block in no_blocks(many):
                error, kept = raised(Question("0" * 2 ** many).turned_at, block)
                self.assertIs(error, BadBlock)
                self.assertIs(kept[0], block)
        self.assertEqual(raised(Question("0").turned_at, [0]), (BadBlock, ([0],)))

    def test_reordered(self):
        source = random.Random(25)
        for table in SOME:
            question = Question(table)
            many = question.many
            orders = list(permutations(range(many)))
            for order in orders if many < 4 else source.sample(orders, 12):
                found = question.reordered(list(order))
                for text in words("01", many):
                    asked = [""] * many
                    for k in range(many):
                        asked[order[k]] = text[k]
                    self.assertEqual(found(text), question("".join(asked)))
                self.assertEqual(question.reordered(order=order), found)
            self.assertEqual(question.table, table)

    def test_bad_orders(self):
        for many in (2, 3, 6):
            question = Question("0" * 2 ** many)
            whole = list(range(many))
            for order in no_blocks(many) + [[], (), [0], whole[1:], whole + [0], whole[:-1] + [many],
                                            whole[:-1] + [0], [False, True] + whole[2:], [-1] + whole[1:]]:
                error, kept = raised(question.reordered, order)
                self.assertIs(error, BadOrder, order)
                self.assertIs(kept[0], order)
        self.assertEqual(raised(Question("01").reordered, [False]), (BadOrder, ([False],)))
        self.assertEqual(raised(Question("0").reordered, [0]), (BadOrder, ([0],)))
        self.assertEqual(Question("1").reordered([]).table, "1")

    def test_with_idle(self):
        for table in SMALL[::2] + LARGE:
            question = Question(table)
            many = question.many
            for position in range(many + 1 if many < 6 else 0):
                found = question.with_idle(position)
                wanted = table_by(many + 1, lambda text: question(text[:position] + text[position + 1:]))
                self.assertEqual([found.table, found.many], [wanted, many + 1])
                self.assertEqual(question.with_idle(position=position), found)
            self.assertEqual(question.table, table)

    def test_bad_positions_and_then_too_many(self):
        for many in range(7):
            question = Question("01" * (2 ** many // 2) or "0")
            for position in no_positions(many + 1):
                error, kept = raised(question.with_idle, position)
                self.assertIs(error, BadPosition)
                self.assertIs(kept[0], position)
        for position in range(7):
            self.assertEqual(raised(Question("01" * 32).with_idle, position), (TooMany, (7,)))

    def test_passed_lists(self):
        question = Question("00010111")
        block, order = [2, 0], [1, 2, 0]
        results = [question.turned_at(block), question.reordered(order)]
        tables = [one.table for one in results]
        self.assertEqual([block, order], [[2, 0], [1, 2, 0]])
        block.append(1)
        order.reverse()
        self.assertEqual([one.table for one in results], tables)


class Asking(unittest.TestCase):
    """Points 4 and 26."""

    def test_input_by_input(self):
        for table in SMALL + LARGE:
            question = Question(table)
            every = answers(table)
            places = range(question.many)
            wanted = [k for k in places if any(every[text] != every[flipped(text, [k])] for text in every)]
            self.assertEqual(question.relevant(), wanted)
            falls = any(every[text] > every[flipped(text, [k])] for text in every for k in places if text[k] == "0")
            self.assertIs(question.is_rising(), not falls)
            dual = "".join(str(1 - every[flipped(text, places)]) for text in every)
            self.assertEqual(question.dual().table, dual)
            self.assertEqual(question.table, table)

    def test_rising_questions_of_many_positions(self):
        for many in range(7):
            for count in range(many + 2):
                question = Question.at_least(many, count)
                self.assertIs(question.is_rising(), True)
                self.assertIs((~question).is_rising(), count in (0, many + 1))

    def test_a_returned_list_is_new(self):
        question = Question("0110")
        question.relevant().clear()
        self.assertEqual(question.relevant(), [0, 1])


class Given(unittest.TestCase):
    """Point 27."""

    def test_constant(self):
        for many in range(7):
            for answer in (0, 1):
                self.assertEqual(Question.constant(many, answer).table, str(answer) * 2 ** many)
        self.assertEqual(Question.constant(answer=1, many=1).table, "11")
        for answer in NO_BIT:
            error, kept = raised(Question.constant, 2, answer)
            self.assertIs(error, BadBit)
            self.assertIs(kept[0], answer)

    def test_bit_at(self):
        for many in range(7):
            for position in range(many):
                wanted = table_by(many, lambda text: text[position] == "1")
                self.assertEqual(Question.bit_at(many, position).table, wanted)
            for position in no_positions(many):
                error, kept = raised(Question.bit_at, many, position)
                self.assertIs(error, BadPosition)
                self.assertIs(kept[0], position)
        self.assertEqual(Question.bit_at(position=0, many=1).table, "01")

    def test_at_least(self):
        for many in range(7):
            for count in range(many + 2):
                wanted = table_by(many, lambda text: text.count("1") >= count)
                self.assertEqual(Question.at_least(many, count).table, wanted)
            for count in [-1, many + 2, many + 3, 10 ** 39, True, False, None, "1", "", [1], (1,), {}]:
                error, kept = raised(Question.at_least, many, count)
                self.assertIs(error, BadCount)
                self.assertIs(kept[0], count)
        self.assertEqual(Question.at_least(count=1, many=1).table, "01")

    def test_parity(self):
        for many in range(7):
            self.assertEqual(Question.parity(many).table, table_by(many, lambda text: text.count("1") % 2))
        self.assertEqual(Question.parity(many=1).table, "01")

    def test_of(self):
        source = random.Random(27)
        for many in range(7):
            for table in some_tables(many, 5):
                every = answers(table)
                yes = [text for text in every if every[text]]
                source.shuffle(yes)
                for given in (yes, yes + yes[:2], tuple(yes), yes[::-1]):
                    before = copy.copy(given)
                    self.assertEqual(Question.of(many, given).table, table)
                    self.assertEqual(given, before)
            self.assertEqual(Question.of(many, []).table, "0" * 2 ** many)
            self.assertEqual(Question.of(many, ()).table, "0" * 2 ** many)
        self.assertEqual(Question.of(yes=["1", "1"], many=1).table, "01")

    def test_a_passed_list_may_be_changed_afterwards(self):
        yes = ["01", "10"]
        question = Question.of(2, yes)
        yes.append("11")
        yes[0] = "00"
        self.assertEqual([question.table, list(question)], ["0110", ["01", "10"]])

    def test_of_names_the_first_bad_input(self):
        for many in range(7):
            right = "1" * many
            bad = [value for value in ANY if not (isinstance(value, str) and len(value) == many)]
            bad += ["-" * (many + 1), "0" * (many + 1), [right], (right,), None]
            bad += ["-" * many, "2" * many] if many else []
            for value in bad:
                for given in ([value], [right, value], (right, value, None), [right, right, value, "no", right]):
                    error, kept = raised(Question.of, many, given)
                    self.assertIs(error, BadInput)
                    self.assertIs(kept[0], value)

    def test_bad_counts_come_first(self):
        calls = [
            (Question.constant, (0, None, 2)), (Question.bit_at, (0, -1, None, True)),
            (Question.at_least, (0, -1, 99, None)), (Question.of, ([], ["0"], [None], ["0", 5]))]
        for many in NO_COUNT:
            for deed, others in calls:
                for other in others:
                    error, kept = raised(deed, many, other)
                    self.assertIs(error, BadCount)
                    self.assertIs(kept[0], many)
            error, kept = raised(Question.parity, many)
            self.assertIs(error, BadCount)
            self.assertIs(kept[0], many)

    def test_all_make_questions(self):
        for question in (Question.constant(1, 0), Question.bit_at(1, 0), Question.at_least(1, 1), Question.parity(1),
                         Question.of(1, ["0"])):
            self.assertIsInstance(question, Question)
