"""Points 7, 143 and 144."""

import inspect
import random
import unittest
from itertools import combinations, permutations, product

from leastlooks.errors import BadNodes
from leastlooks.looks import looks
from leastlooks.questions import Question
from leastlooks.webs import connected, has_ring, is_web_question, pairs, rising_webs
from tests import plain
from tests.plain import EVERY, MORE, SIX, fewest, many_of
from tests.samples import ANY, answers, raised, same, words

NODES = (2, 3, 4)
NO_NODES = [value for value in ANY if value.__class__ is not int or value not in NODES] + [
    0, 1, 5, 6, -2, -4, "3", "4", [3], (4,), [0, 1, 2], {2: 3}, 10 ** 39]


def plain_pairs(nodes):
    return list(combinations(range(nodes), 2))


def many_pairs(nodes):
    return nodes * (nodes - 1) // 2


def ties_of(nodes, text):
    """The ties of a web, each from both ends."""
    ties = [pair for pair, bit in zip(plain_pairs(nodes), text) if bit == "1"]
    return set(ties) | {(second, first) for first, second in ties}


def all_reached(nodes, text):
    """Whether a walk from node 0 comes to each node."""
    ties, seen, waiting = ties_of(nodes, text), {0}, [0]
    while waiting:
        node = waiting.pop()
        for other in range(nodes):
            if (node, other) in ties and other not in seen:
                seen.add(other)
                waiting.append(other)
    return len(seen) == nodes


def walks_round(nodes, text):
    """Whether some walk of three or more different nodes comes back to its first one."""
    ties = ties_of(nodes, text)
    rows = [row for count in range(3, nodes + 1) for row in permutations(range(nodes), count)]
    return any(all((row[at - 1], row[at]) in ties for at in range(len(row))) for row in rows)


def renamed(nodes, text, names):
    ties = {(names[first], names[second]) for first, second in ties_of(nodes, text)}
    return "".join("1" if pair in ties else "0" for pair in plain_pairs(nodes))


def alike(nodes):
    """For each web all those that it becomes if its nodes are renamed."""
    orders = list(permutations(range(nodes)))
    return {text: {renamed(nodes, text, names) for names in orders} for text in words("01", many_pairs(nodes))}


ALIKE = {nodes: alike(nodes) for nodes in NODES}


def is_plain(table, nodes):
    """Point 143: whether a table is that of a question about webs."""
    if many_of(table) != many_pairs(nodes):
        return False
    every = answers(table)
    return all(every[text] == every[other] for text in every for other in ALIKE[nodes][text])


def web_table(nodes, chosen):
    """The table of the question that answers each web as the first one that is alike is answered."""
    return plain.table_of(many_pairs(nodes), lambda text: chosen[min(ALIKE[nodes][text])])


def shapes(nodes):
    return sorted({min(found) for found in ALIKE[nodes].values()})


def web_tables(nodes, count):
    source = random.Random(143 + nodes)
    return [web_table(nodes, {text: source.random() < 0.5 for text in shapes(nodes)}) for _ in range(count)]


def is_rising(table):
    every = answers(table)
    return all(every[text] <= every[text[:at] + "1" + text[at + 1:]] for text in every for at in range(len(text)))


class Webs(unittest.TestCase):
    """Point 143."""

    def test_pairs(self):
        for nodes in NODES:
            self.assertTrue(same(pairs(nodes), plain_pairs(nodes)))
        pairs(nodes=3).clear()
        self.assertEqual(pairs(3), [(0, 1), (0, 2), (1, 2)])

    def test_connected_and_rings(self):
        for nodes in NODES:
            for deed, wanted in ((connected, all_reached), (has_ring, walks_round)):
                found = deed(nodes=nodes)
                self.assertIs(found.__class__, Question)
                self.assertEqual(found.table, plain.table_of(many_pairs(nodes), lambda text: wanted(nodes, text)))
                self.assertIs(is_web_question(found, nodes), True)
        self.assertEqual([str(connected(2)), str(has_ring(2)), str(connected(3)), str(has_ring(3))],
                         ["01", "00", "00010111", "00000001"])
        self.assertEqual([len(connected(4)), len(has_ring(4))], [38, 64 - 38])

    def test_questions_about_webs(self):
        for nodes in NODES:
            for table in web_tables(nodes, 12):
                self.assertIs(is_plain(table, nodes), True)
                self.assertIs(is_web_question(Question(table), nodes), True)
            for answer in "01":
                self.assertIs(is_web_question(Question(answer * 2 ** many_pairs(nodes)), nodes), True)

    def test_one_answer_otherwise(self):
        for nodes in NODES:
            for table in web_tables(nodes, 3):
                for at in range(len(table)):
                    other = table[:at] + str(1 - int(table[at])) + table[at + 1:]
                    wanted = is_plain(other, nodes)
                    self.assertIs(is_web_question(nodes=nodes, question=Question(other)), wanted)
                    text = words("01", many_pairs(nodes))[at]
                    self.assertIs(wanted, len(ALIKE[nodes][text]) == 1)

    def test_all_small_ones_and_others(self):
        for table in EVERY + MORE + SIX:
            for nodes in NODES:
                self.assertIs(is_web_question(Question(table), nodes), is_plain(table, nodes))

    def test_bad_nodes(self):
        questions = [Question("01"), Question("00010111"), Question.parity(6), Question("1")]
        for nodes in NO_NODES:
            calls = [(pairs, (nodes,)), (connected, (nodes,)), (has_ring, (nodes,))]
            for deed, given in calls + [(is_web_question, (question, nodes)) for question in questions]:
                error, kept = raised(deed, *given)
                self.assertIs(error, BadNodes)
                self.assertIs(kept[0], nodes)


class Rising(unittest.TestCase):
    """Point 144."""

    def test_none_is_left_out(self):
        for nodes in (2, 3):
            every = words("01", 2 ** many_pairs(nodes))
            wanted = [table for table in every if is_plain(table, nodes) and is_rising(table) and len(set(table)) == 2]
            self.assertEqual([one.table for one in rising_webs(nodes)], wanted)

    def test_none_of_four_nodes_is_left_out(self):
        names = shapes(4)
        self.assertEqual(len(names), 11)
        found = [web_table(4, dict(zip(names, chosen))) for chosen in product((0, 1), repeat=11)]
        wanted = sorted(table for table in found if is_rising(table) and len(set(table)) == 2)
        self.assertEqual([one.table for one in rising_webs(nodes=4)], wanted)

    def test_all_are_right(self):
        for nodes in NODES:
            found = list(rising_webs(nodes))
            self.assertEqual([one.table for one in found], sorted({one.table for one in found}))
            for one in found:
                self.assertIs(one.__class__, Question)
                self.assertEqual([one.is_rising(), is_web_question(one, nodes)], [True, True])
                self.assertIn(len(one), range(1, 2 ** one.many))
            self.assertEqual(connected(nodes) in found, True)
            self.assertEqual(has_ring(nodes) in found, nodes > 2)

    def test_main_statement(self):
        for nodes in NODES:
            for one in rising_webs(nodes):
                self.assertEqual([looks(one), fewest(one.table)], [many_pairs(nodes)] * 2)

    def test_a_generator(self):
        rows = rising_webs(4)
        self.assertTrue(inspect.isgenerator(rows))
        self.assertEqual(next(rows).table, "0" * 63 + "1")
        # Two of them at once do not disturb each other.
        others = rising_webs(4)
        first = [next(others).table for _ in range(3)]
        second = [next(rows).table for _ in range(3)]
        self.assertEqual([first[1:], len(set(first + second))], [second[:2], 4])

    def test_bad_nodes_when_the_first_one_is_asked_for(self):
        for nodes in NO_NODES:
            rows = rising_webs(nodes)
            error, kept = raised(next, rows)
            self.assertIs(error, BadNodes)
            self.assertIs(kept[0], nodes)
