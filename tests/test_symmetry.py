"""Points 7, 141 and 142."""

import random
import unittest
from itertools import permutations

from leastlooks.looks import looks
from leastlooks.questions import Question
from leastlooks.sums import degree
from leastlooks.symmetry import full_prime, keeping_orders, signed_sum
from tests import plain
from tests.plain import EVERY, FEW, MORE, SIX, fewest, many_of, random_tables
from tests.samples import answers, same, words


def by_ones(many, chosen):
    """The table of the question whether the number of bits 1 is one of some."""
    return plain.table_of(many, lambda text: text.count("1") in chosen)


def turned_round(text):
    return min(text[at:] + text[:at] for at in range(max(1, len(text))))


def rings(many, count):
    """Tables that a turn of all positions leaves as they are."""
    source = random.Random(142 + many)
    found = []
    for _ in range(count):
        chosen = {text: source.random() < 0.5 for text in words("01", many) if turned_round(text) == text}
        found.append(plain.table_of(many, lambda text: chosen[turned_round(text)]))
    return found


ALIKE = [by_ones(many, chosen) for many in range(7) for chosen in ((), (0,), (many,), (1, 2), (0, many), (0, 1, 3, 5))]
RINGS = [table for many in range(2, 7) for table in rings(many, 5)]
ALL = FEW + [table for many in range(7) for table in random_tables(many, 2)] + ALIKE + RINGS + MORE[::3]


def mapped(table, order):
    """Point 25: the table of the question by another order."""
    every = answers(table)
    found = ""
    for text in every:
        bits = ["-"] * len(text)
        for at, position in enumerate(order):
            bits[position] = text[at]
        found += str(every["".join(bits)])
    return found


def plain_orders(table):
    """Point 141."""
    orders = [list(order) for order in permutations(range(many_of(table)))]
    return [order for order in sorted(orders) if mapped(table, order) == table]


def plain_sum(table):
    yes = [text for text, answer in answers(table).items() if answer == 1]
    even = [text for text in yes if text.count("1") % 2 == 0]
    return len(even) - (len(yes) - len(even))


def plain_prime(table):
    """Point 142."""
    many = many_of(table)
    if many not in (2, 3, 4, 5) or table[0] == table[-1]:
        return None
    orders = plain_orders(table)
    moved = all(any(order[first] == second for order in orders) for first in range(many) for second in range(many))
    return {2: 2, 3: 3, 4: 2, 5: 5}[many] if moved else None


class Orders(unittest.TestCase):
    """Point 141, the orders."""

    def test_against_all_orders(self):
        for table in EVERY[::7] + [one for one in ALL if many_of(one) < 6]:
            self.assertTrue(same(keeping_orders(Question(table)), plain_orders(table)), table)

    def test_some_of_six_positions(self):
        for table in SIX[::5] + RINGS[-2:]:
            self.assertTrue(same(keeping_orders(Question(table)), plain_orders(table)), table)

    def test_known_ones(self):
        self.assertEqual(keeping_orders(question=Question("1")), [[]])
        self.assertEqual(keeping_orders(Question("10")), [[0]])
        self.assertEqual(keeping_orders(Question.bit_at(3, 1)), [[0, 1, 2], [2, 1, 0]])
        self.assertEqual(keeping_orders(Question("0010")), [[0, 1]])
        for many in range(7):
            self.assertEqual(len(keeping_orders(Question.parity(many))), (1, 1, 2, 6, 24, 120, 720)[many])

    def test_a_turn_of_all_positions(self):
        for table in RINGS:
            many = many_of(table)
            orders = keeping_orders(Question(table))
            for at in range(many):
                self.assertIn([(position + at) % many for position in range(many)], orders)

    def test_what_is_returned_is_new(self):
        question = Question("0110")
        found = keeping_orders(question)
        found[0].clear()
        found.pop()
        self.assertEqual(keeping_orders(question), [[0, 1], [1, 0]])


class Sums(unittest.TestCase):
    """Point 141, the signed sum."""

    def test_by_counting(self):
        for table in EVERY + ALL + SIX:
            self.assertTrue(same(signed_sum(Question(table)), plain_sum(table)))
        self.assertEqual([signed_sum(question=Question("1")), signed_sum(Question("01")), signed_sum(Question("0110"))],
                         [1, -1, -2])

    def test_main_statement(self):
        for table in EVERY + ALL + SIX:
            many = many_of(table)
            if many > 0:
                self.assertEqual(plain.degree(table) == many, signed_sum(Question(table)) != 0)
                self.assertEqual(degree(Question(table)) == many, signed_sum(Question(table)) != 0)
                if signed_sum(Question(table)) != 0:
                    self.assertEqual([fewest(table), looks(Question(table))], [many, many])


class Primes(unittest.TestCase):
    """Point 142."""

    def test_against_the_words(self):
        for table in EVERY + [one for one in ALL if many_of(one) < 6]:
            self.assertTrue(same(full_prime(Question(table)), plain_prime(table)), table)
        for table in SIX + RINGS[-5:] + ALIKE[-6:]:
            self.assertIs(full_prime(Question(table)), None)

    def test_both_kinds_occur(self):
        for many in (2, 3, 4, 5):
            seen = [plain_prime(table) for table in ALIKE + RINGS if many_of(table) == many]
            self.assertEqual(set(seen), {None, {2: 2, 3: 3, 4: 2, 5: 5}[many]})

    def test_known_ones(self):
        for many in range(7):
            wanted = {2: 2, 3: 3, 4: 2, 5: 5}.get(many)
            for count in range(1, many + 1):
                self.assertIs(full_prime(question=Question.at_least(many, count)), wanted)
            self.assertIs(full_prime(Question.constant(many, 1)), None)
            self.assertIs(full_prime(Question.parity(many)), wanted if many % 2 else None)
        # The ends differ, but no order moves position 0 to another place.
        self.assertIs(full_prime(Question("00000111")), None)
        # Orders that turn or mirror all positions as a whole are enough.
        table = plain.table_of(5, lambda text: turned_round(text) in ("00011", "11111"))
        self.assertEqual([len(plain_orders(table)), full_prime(Question(table))], [10, 5])

    def test_main_statement(self):
        for table in EVERY + ALL:
            prime = full_prime(Question(table))
            if prime is not None:
                self.assertNotEqual(signed_sum(Question(table)) % prime, 0)
                self.assertEqual([fewest(table), plain.degree(table)], [many_of(table)] * 2)
