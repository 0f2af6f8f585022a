"""The examples of the interface, with the very values that stand there, and those of README.md."""

import doctest
import os
import unittest

from leastlooks.errors import BadFormula
from leastlooks.formulas import Formula, formula_of
from leastlooks.patterns import common, differ, fits, fitting, inputs, known, meet, part, patterns, turned, with_bit
from leastlooks.questions import Question
from tests.samples import same

README = os.path.join(os.path.dirname(os.path.dirname(os.path.abspath(__file__))), "README.md")


class Examples(unittest.TestCase):
    def check(self, found, wanted):
        self.assertTrue(same(found, wanted), (found, wanted))

    def test_patterns(self):
        self.check([inputs(2), patterns(1), known("0-1"), fitting("0-1")],
                   [['00', '01', '10', '11'], ['-', '0', '1'], [0, 2], ['001', '011']])
        self.check([fits("011", "0-1"), fits("0-1", "011"), differ("01-", "1-1"), meet("01-", "-11"),
                    meet("01-", "00-"), common("01-", "-11")],
                   [True, False, [0], '011', None, '-1-'])
        self.check([with_bit("0-1", 1, 1), turned("0110", [3, 0]), part("0110", (1,))], ['011', '1111', '-1--'])

    def test_questions(self):
        two = Question.at_least(3, 2)
        self.check([two.table, two("110"), len(two), list(two), "011" in two, two.settled("1-1"), two.settled("1--")],
                   ['00010111', 1, 4, ['011', '101', '110', '111'], True, 1, None])
        self.check([str(two.restricted("0--")), str(two.restricted("-1-")), str(~two), two.dual() == two,
                    two.relevant(), two.is_rising()],
                   ['0001', '0111', '11101000', True, [0, 1, 2], True])
        gate = Question("0010")
        self.check([str(Question.bit_at(3, 0).reordered([1, 2, 0])), str(gate.turned_at([0])), str(gate.with_idle(1)),
                    str(gate ^ Question.parity(2))],
                   ['01010101', '1000', '00001010', '0100'])

    def test_formulas(self):
        two = Question.at_least(3, 2)
        both = Formula("not x0 and(x1 or  x2 or (x0))")
        self.check([both.positions(), both.question(3).table, both.seen("1--"), both.seen("-1-"), both.is_once()],
                   [[0, 1, 2], '01110000', 0, None, False])
        self.check([Formula(formula_of(two)).question(3) == two, Formula("atleast(2, x0, x1, x2)").seen("11-"),
                    Formula("x0 or not x0").seen("-"), Formula("x0 and not x1").is_once()],
                   [True, 1, None, True])

    def test_the_errors_of_formulas(self):
        for text, at in (("x0 and or x1", 7), ("(x0", 3)):
            with self.assertRaises(BadFormula) as caught:
                Formula(text)
            self.assertEqual(caught.exception.at, at)

    def test_the_readme(self):
        self.assertEqual(doctest.testfile(README, module_relative=False).failed, 0)
