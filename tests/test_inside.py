"""Points 7 and 131 to 133."""

import random
import unittest

from leastlooks.errors import TooMany, UnlikeSizes
from leastlooks.inside import inside, inside_degree, inside_looks, inside_tree
from leastlooks.looks import looks
from leastlooks.questions import Question
from leastlooks.sums import degree
from leastlooks.trees import depth, wrong_input
from tests import plain
from tests.plain import EVERY, fewest, many_of, random_tables, special_tables
from tests.samples import answers, raised, same, words

ALL = (inside, inside_looks, inside_degree, inside_tree)
OUTERS = {many: [table for table in EVERY if many_of(table) == many] for many in range(4)}
OUTERS[4] = special_tables(4) + random_tables(4, 6)


def plain_inside(outer, inners):
    """Point 131, for tables: the table."""
    found = ""
    for text in words("01", sum(many_of(inner) for inner in inners)):
        bits = ""
        for inner in inners:
            bits += str(answers(inner)[text[:many_of(inner)]])
            text = text[many_of(inner):]
        found += str(answers(outer)[bits])
    return found


def samples():
    """Tables of outer questions, with the tables of their inner ones."""
    source = random.Random(131)
    for many in range(5):
        for _ in range((3, 40, 120, 160, 120)[many]):
            outer = source.choice(OUTERS[many])
            inners = [source.choice(OUTERS[source.choice((0, 1, 1, 2, 2, 3))]) for _ in range(many)]
            kind = source.random()
            if kind < 0.15:
                inners = [source.choice("01") * 2 ** source.randrange(3) for _ in inners]
            elif kind < 0.4:
                inners = [source.choice([one] * 3 + ["0", "11", "0000"]) for one in inners]
            elif kind < 0.55 and many:
                inners = [source.choice(OUTERS[source.randint(0, 6 // many if many > 2 else 2)])] * many
            if sum(map(many_of, inners)) <= 6:
                yield outer, inners


SAMPLES = list(samples())


class Inside(unittest.TestCase):
    """Point 131."""

    def test_input_by_input(self):
        for outer, inners in SAMPLES:
            given = [Question(inner) for inner in inners]
            wanted = plain_inside(outer, inners)
            for rows in (given, tuple(given)):
                found = inside(Question(outer), rows)
                self.assertIs(found.__class__, Question)
                self.assertEqual([found.table, found.many], [wanted, sum(map(many_of, inners))])
            self.assertEqual([str(one) for one in given], inners)

    def test_the_samples_are_of_all_kinds(self):
        self.assertGreater(len(SAMPLES), 300)
        kinds = [[len(set(inner)) == 1 for inner in inners] for _, inners in SAMPLES if inners]
        self.assertTrue(any(all(kind) for kind in kinds) and any(not any(kind) for kind in kinds))
        self.assertGreater(sum(any(kind) and not all(kind) for kind in kinds), 50)
        self.assertEqual({len(outer) for outer, _ in SAMPLES}, {1, 2, 4, 8, 16})
        self.assertEqual({sum(map(many_of, inners)) for _, inners in SAMPLES}, set(range(7)))

    def test_without_positions(self):
        for answer in "01":
            self.assertEqual(str(inside(Question(answer), [])), answer)
            self.assertEqual(str(inside(Question("01"), (Question(answer),))), answer)
            self.assertEqual([inside_looks(Question(answer), []), inside_degree(Question(answer), ())], [0, 0])
            self.assertEqual(inside_tree(Question("10"), [Question(answer)]), 1 - int(answer))

    def test_each_position_by_itself(self):
        bit = Question("01")
        for table in OUTERS[3][::5] + OUTERS[4] + special_tables(6):
            question = Question(table)
            self.assertEqual(inside(question, [bit] * question.many), question)

    def test_by_name(self):
        given = [Question("0111"), Question("01")]
        for deed in ALL:
            self.assertEqual(deed(inners=given, outer=Question("0001")), deed(Question("0001"), given))
        self.assertEqual([one.table for one in given], ["0111", "01"])


class Wrong(unittest.TestCase):
    """Point 131, the errors of all four functions."""

    def test_unlike_sizes_ahead_of_too_many(self):
        for many in range(7):
            outer = Question.parity(many)
            for count in range(9):
                for inner in (0, 1, 3, 6):
                    if count == many and count * inner <= 6:
                        continue
                    wanted = (UnlikeSizes, (many, count)) if count != many else (TooMany, (count * inner,))
                    for rows in ([Question.parity(inner)] * count, (Question.constant(inner, 1),) * count):
                        for deed in ALL:
                            self.assertEqual(raised(deed, outer, rows), wanted)

    def test_the_number_of_all_positions(self):
        for sizes in ((6, 1), (1, 6), (4, 3), (0, 7), (6, 6)):
            rows = [Question.constant(min(size, 6), 0) for size in sizes]
            total = sum(row.many for row in rows)
            wanted = (TooMany, (total,)) if total > 6 else None
            for deed in ALL:
                self.assertEqual(raised(deed, Question("0110"), rows), wanted)


class Numbers(unittest.TestCase):
    """Points 132 and 133, with their main statement."""

    def test_looks_and_degrees(self):
        for outer, inners in SAMPLES:
            question, given = Question(outer), [Question(inner) for inner in inners]
            table = plain_inside(outer, inners)
            self.assertTrue(same(inside_looks(question, given), fewest(table)), (outer, inners))
            self.assertTrue(same(inside_degree(question, tuple(given)), plain.degree(table)), (outer, inners))
            whole = inside(question, given)
            self.assertEqual([inside_looks(question, given), inside_degree(question, given)],
                             [looks(whole), degree(whole)])

    def test_trees(self):
        for outer, inners in SAMPLES:
            question, given = Question(outer), [Question(inner) for inner in inners]
            table = plain_inside(outer, inners)
            tree = inside_tree(question, given)
            self.assertTrue(plain.is_right(table, tree), (outer, inners))
            self.assertEqual(plain.deep(tree), fewest(table))
            self.assertEqual([depth(tree), wrong_input(inside(question, given), tree)],
                             [inside_looks(question, given), None])

    def test_constant_inner_questions(self):
        constant = [Question("0"), Question("1111")]
        for table in OUTERS[3][::3]:
            for chosen in range(8):
                rows = [constant[chosen >> at & 1] for at in range(3)]
                if sum(row.many for row in rows) > 6:
                    continue
                bits = "".join(row.table[0] for row in rows)
                given = (Question(table), rows)
                self.assertEqual([inside_looks(*given), inside_degree(*given), inside_tree(*given)],
                                 [0, 0, answers(table)[bits]])

    def test_prices_that_change_the_order(self):
        # One look at the first bit of the outer question costs three looks, so that others come first.
        rows = [Question.parity(3), Question("01"), Question("10")]
        for table in OUTERS[3]:
            given = (Question(table), rows)
            self.assertEqual(inside_looks(*given), fewest(plain_inside(table, [row.table for row in rows])))

    def test_the_same_question_at_each_position(self):
        for many in (1, 2, 3):
            for outer in OUTERS[many][::1 if many < 3 else 5]:
                for inner in [one for size in (1, 2, 3) for one in OUTERS[size][::1 if size < 3 else 37]]:
                    if many * many_of(inner) > 6 or len(set(inner)) == 1:
                        continue
                    given = (Question(outer), [Question(inner)] * many)
                    self.assertEqual(inside_looks(*given), fewest(outer) * fewest(inner))
                    self.assertEqual(inside_degree(*given), plain.degree(outer) * plain.degree(inner))
                    whole = inside(*given)
                    self.assertEqual([looks(whole), degree(whole)], [inside_looks(*given), inside_degree(*given)])
