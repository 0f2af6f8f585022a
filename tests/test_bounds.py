"""Points 5, 6, 7 and 91 to 94."""

import unittest

from leastlooks.bounds import bounds, hub, most_rounds, numbers, rounds_tree, union_settles
from leastlooks.errors import BadBit, BadInput
from leastlooks.questions import Question
from tests import plain
from tests.plain import EVERY, FEW, MORE, SIX, fewest, fixed, many_of, settled, size, unknown
from tests.samples import answers, raised, same
from tests.test_patterns import NO_BIT
from tests.test_settling import no_inputs

ALL = EVERY + MORE + SIX


def plain_numbers(table):
    """Points 5 and 91, from all inputs."""
    every = answers(table)
    sensitivity = {text: len(plain.positions(table, text)) for text in every}
    apart = {text: plain.most_apart(table, text) for text in every}
    return (fewest(table), plain.by_answer(table, plain.sizes(table)), plain.by_answer(table, sensitivity),
            plain.by_answer(table, apart), plain.degree(table))


def rounds_of(table, answer, text):
    """Point 92, on one input: the list of the rounds, each a list of the looks, and the answer at the end."""
    known = "-" * len(text)
    rounds = []
    while settled(table)[known] is None:
        taken = min((size(one), one) for one, found in settled(table).items() if found == answer and
                    all("-" in (a, b) or a == b for a, b in zip(one, known)))[1]
        rounds.append([])
        for position in [k for k in unknown(known) if taken[k] != "-"]:
            if settled(table)[known] is None:
                rounds[-1].append(position)
                known = fixed(known, position, text[position])
    return rounds, settled(table)[known]


class Numbers(unittest.TestCase):
    """Points 6 and 91."""

    def test_numbers_and_bounds(self):
        for table in EVERY[::2] + FEW + MORE + SIX[::2]:
            wanted = plain_numbers(table)
            self.assertTrue(same(numbers(Question(table)), wanted))
            most, (c0, c1), (s0, s1), (b0, b1), d = wanted
            s, b, c = max(s0, s1), max(b0, b1), max(c0, c1)
            rows = [("s b", s, b), ("b c", b, c), ("c sb", c, s * b), ("c D", c, most), ("D cc", most, c0 * c1),
                    ("D cb", most, c1 * b0), ("d D", d, most), ("d ss", d, s * s), ("b dd", b, d * d)]
            self.assertTrue(same(bounds(Question(table)), rows))

    def test_each_left_number_is_at_most_the_right_one(self):
        for table in ALL:
            for name, low, high in bounds(Question(table)):
                self.assertLessEqual(low, high, (name, table))

    def test_constant_questions(self):
        for many in range(7):
            question = Question.constant(many, many % 2)
            self.assertTrue(same(numbers(question=question), (0, (0, 0), (0, 0), (0, 0), 0)))
            self.assertEqual([row[1:] for row in bounds(question=question)], [(0, 0)] * 9)

    def test_a_returned_list_is_new(self):
        bounds(Question("01")).clear()
        self.assertEqual(len(bounds(Question("01"))), 9)


class Rounds(unittest.TestCase):
    """Point 92."""

    def test_look_by_look(self):
        for table in EVERY + MORE + SIX[::3]:
            question = Question(table)
            for answer in (0, 1):
                tree = rounds_tree(question, answer)
                counts = [0]
                for text in answers(table):
                    rounds, end = rounds_of(table, answer, text)
                    counts.append(len(rounds))
                    looks = [position for one in rounds for position in one]
                    self.assertTrue(same(plain.way(tree, text), (looks, end)), (table, answer, text))
                self.assertTrue(same(most_rounds(question, answer), max(counts)))

    def test_the_main_statement(self):
        for table in ALL:
            both = [plain.by_answer(table, plain.sizes(table)), plain.by_answer(
                table, {text: plain.most_apart(table, text) for text in answers(table)})] if len(table) < 64 else []
            question = Question(table)
            for answer in (0, 1):
                self.assertTrue(plain.is_right(table, rounds_tree(question, answer)))
                for numbers_of in both:
                    self.assertLessEqual(most_rounds(question, answer), numbers_of[1 - answer])
                for text in list(answers(table))[::3] if both else []:
                    for one in rounds_of(table, answer, text)[0]:
                        self.assertLessEqual(len(one), both[0][answer])

    def test_constant_questions_and_names(self):
        for many in range(7):
            for answer in (0, 1):
                question = Question.constant(many, answer)
                for chosen in (0, 1):
                    self.assertTrue(same(rounds_tree(question, chosen), answer))
                    self.assertEqual(most_rounds(question, chosen), 0)
        self.assertEqual(rounds_tree(answer=0, question=Question("01")), (0, 0, 1))
        self.assertEqual(most_rounds(answer=0, question=Question("01")), 1)

    def test_a_round_goes_on_behind_another_bit(self):
        # The first pattern is 00-; behind the bit 1 at position 0 the round still looks at position 1.
        question = ~Question.of(4, ["0000", "0001", "0010", "0011", "1111"])
        tree = rounds_tree(question, 0)
        self.assertEqual([tree[0], tree[1][0], tree[2][0]], [0, 1, 1])

    def test_a_round_ends_early(self):
        question = Question("00010111")
        self.assertEqual([rounds_of("00010111", 1, text)[0] for text in ("000", "011", "101")],
                         [[[1, 2]], [[1, 2]], [[1, 2], [0]]])
        self.assertEqual(rounds_tree(question, 1)[1], (2, 0, (0, 0, 1)))
        self.assertEqual(rounds_tree(Question("0001"), 1), (0, 0, (1, 0, 1)))

    def test_bad_bits(self):
        for deed in (rounds_tree, most_rounds):
            for answer in NO_BIT:
                error, kept = raised(deed, Question("0110"), answer)
                self.assertIs(error, BadBit)
                self.assertIs(kept[0], answer)


class Unions(unittest.TestCase):
    """Point 93."""

    def test_the_blocks_and_the_pattern(self):
        for table in EVERY[::2] + MORE + SIX:
            question = Question(table)
            for text in list(answers(table))[::1 if len(table) < 16 else 7]:
                lists = plain.apart_lists(sorted(plain.lean(table, text)))
                longest = max(len(found) for found in lists)
                wanted = min(found for found in lists if len(found) == longest)
                places = [position for block in wanted for position in block]
                pattern = "".join(bit if k in places else "-" for k, bit in enumerate(text))
                self.assertTrue(same(union_settles(question, text), (wanted, pattern)))
                self.assertEqual(settled(table)[pattern], question(text))
        self.assertEqual(union_settles(text="", question=Question("1")), ([], ""))

    def test_a_returned_list_is_new(self):
        union_settles(Question("01"), "0")[0].clear()
        self.assertEqual(union_settles(Question("01"), "0"), ([(0,)], "0"))

    def test_bad_inputs(self):
        for many in (0, 1, 3, 6):
            for value in no_inputs(many):
                error, kept = raised(union_settles, Question.constant(many, 1), value)
                self.assertIs(error, BadInput)
                self.assertIs(kept[0], value)


class Hubs(unittest.TestCase):
    """Point 94."""

    def test_all_words_of_the_point(self):
        for table in ALL:
            found = hub(Question(table))
            if len(set(table)) == 1:
                self.assertIsNone(found)
                continue
            high = plain.degree(table)
            product = min(block for block in plain.products(table) if len(block) == high)
            rows = []
            for text in answers(table):
                if all(text[k] == "0" for k in range(many_of(table)) if k not in product):
                    rows.append((text, [k for k in plain.positions(table, text) if k in product]))
            most = max(len(row[1]) for row in rows)
            text, positions = [row for row in rows if len(row[1]) == most][0]
            self.assertTrue(same(found, (product, text, positions)))
            self.assertGreaterEqual(most * most, high)

    def test_none_exactly_for_constant_questions(self):
        for many in range(7):
            self.assertIsNone(hub(question=Question.constant(many, 0)))
            self.assertIsNone(hub(question=Question.constant(many, 1)))
            if many:
                self.assertEqual(hub(Question.bit_at(many, many - 1)), ((many - 1,), "0" * many, [many - 1]))

    def test_a_returned_list_is_new(self):
        hub(Question("01"))[2].clear()
        self.assertEqual(hub(Question("01")), ((0,), "0", [0]))
