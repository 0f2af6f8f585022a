"""Points 7 and 31 to 36."""

import random
import unittest
from itertools import product

from leastlooks.errors import BadCount, BadFormula, BadPattern, BadPosition
from leastlooks.formulas import Formula, formula_of
from leastlooks.questions import Question
from tests import formula_rules
from tests.formula_rules import WORDS, fault, short_formulas, some_formulas
from tests.samples import ANY, fits, raised, same, some_tables, words
from tests.test_questions import NO_COUNT

# Each word, with one part and with several, what binds most, and spaces.
TEXTS = [
    "x0", "x1", "x2", "x3", "x4", "x5", "0", "1", "(x0)", "((1))", "not x0", "not not x0", "not not not x1", "not 0",
    "not (x0 and x1)", "(not x0) and x1", "not x0 and x1", "not x0 or x1", "not x0 xor x1", "x0 and not x1",
    "x0 and x1", "x0 xor x1", "x0 or x1", "x0 and x1 and x2", "x0 xor x1 xor x2", "x0 or x1 or x2",
    "x0 xor x1 xor x2 xor x3", "x0 or x1 and x2", "x0 and x1 or x2", "x0 xor x1 and x2", "x0 and x1 xor x2",
    "x0 or x1 xor x2", "x0 xor x1 or x2", "(x0 or x1) and x2", "x0 and (x1 or x2)", "(x0 xor x1) and x2",
    "(x0 or x1) xor x2", "x0 or x1 xor x2 and not x3", "not x0 and x1 or x2", "not x3 and x2 xor x1 or x0",
    "atleast(1, x0)", "atleast(2,x0,x1,x2)", "atleast(2, x0 and x1, not x2, x3 or x4)", "not atleast(1, x0, x1)",
    "atleast(1, x0) and x1", "atleast(1, atleast(2, x0, x1), x2 xor x3)", "atleast(2, x0, x0, x1)",
    "x0 or not x0", "x0 and not x0", "x0 xor x0", "x0 and 0", "x0 or 1", "0 xor x1", "1 xor x1", "not(x0)and(x1)or(x2)",
    "  x0  ", "not(not(x0))", "(  x0  or x1)and x2", "atleast  (  1  ,  x0  ,  x1  )", "  (x0)xor(x1)  ",
] + [f"atleast({k}, x0)" for k in range(10)] + [f"atleast({k},x0,x1,0,x2,1)" for k in range(10)]

FAULTS = [
    ("", 0), (" ", 1), ("     ", 5), ("x0 an", 3), ("x0 and or x1", 7), ("(x0", 3), ("x0 and", 6), ("x0 and  ", 8),
    ("not", 3), ("not not", 7), ("not ", 4), ("(", 1), ("((", 2), ("(x0 or", 6), ("atleast", 7), ("atleast(", 8),
    ("atleast(2", 9), ("atleast(2,", 10), ("atleast(2,x0", 12), ("atleast(2,x0,", 13), ("atleast (2 , x0 ", 16),
    ("x0 xor", 6), ("x0 or (x1", 9), ("x6", 0), ("x01", 0), ("and1", 0), ("2", 0), ("10", 0), ("00", 0), ("01", 0), ("x", 0),
    ("x00", 0), ("X0", 0), ("NOT x0", 0), ("not1", 0), ("nott x0", 0), ("x0x1", 0), ("x0not", 0), ("atleast2", 0),
    ("x0 and x6", 7), ("x0 and1 x1", 3), ("x0 and 2", 7), ("x0 and 10", 7), ("x0 x1", 3), ("x0 0", 3), ("x0 not x1", 3),
    ("x0 (x1)", 3), ("x0(", 2), ("(x0)(x1)", 4), ("(x0) x1", 5), ("x0)", 2), (")", 0), ("()", 1), ("x0,x1", 2), (",", 0),
    ("(x0,x1)", 3), ("and x0", 0), ("or", 0), ("xor x0", 0), ("x0 and and x1", 7), ("x0 or xor x1", 6), ("not and", 4),
    ("not )", 4), ("(not)", 4), ("(x0 or)", 6), ("(x0))", 4), ("((x0)", 5), ("atleast x0", 8), ("atleast 2", 8),
    ("atleast()", 8), ("atleast(x0)", 8), ("atleast(10, x0)", 8), ("atleast(2)", 9), ("atleast(2 x0)", 10),
    ("atleast(2x0)", 8), ("atleast(2,)", 10), ("atleast(2,,x0)", 10), ("atleast(2,x0,)", 13), ("atleast(2,x0 x1)", 13),
    ("atleast(2,x0) x1", 14), ("atleast(-1,x0)", 8), ("atleast(2;x0)", 9), ("(atleast(2,x0)", 14),
    ("atleast(2,(x0,x1))", 13), ("atleast(atleast(1,x0),x1)", 8), ("atleast(not 1,x0)", 8), ("atleast((1),x0)", 8),
    ("x0 & x1", 3), ("x0&x1", 2), ("x_0", 0), ("x 0", 0), ("-x0", 0), ("x0.", 2), ("x0 and -", 7), ("not x0!", 6),
    ("x0 atleast", 3), ("x0 and atleast", 14), ("x0 and not", 10), ("x0 and x1 and", 13), ("no", 0), ("atleas(1,x0)", 0),
    ("1 1", 2), ("1 and 2 and 3", 6), ("x0 o", 3), ("x0 orx1", 3), ("x0or x1", 0), ("(x0)an", 4), ("(x0)and", 7),
]


class Faults(unittest.TestCase):
    """Point 32, and what a formula is (point 31)."""

    def check(self, text):
        at = fault(text)
        self.assertEqual(raised(Formula, text), None if at is None else (BadFormula, (at,)), text)

    def test_these_texts(self):
        for text, at in FAULTS:
            self.assertEqual(raised(Formula, text), (BadFormula, (at,)), text)
        for text in TEXTS:
            self.assertIsNone(raised(Formula, text), text)
        self.assertEqual(raised(Formula, text="x0 x0"), (BadFormula, (3,)))

    def test_the_words_of_the_point_for_short_texts(self):
        begun = {row[:count] for row in short_formulas(10) for count in range(len(row) + 1)}
        whole = short_formulas(4)
        for count in range(4):
            for row in product(("x0", "1", "not", "and", "(", ")", "atleast", ","), repeat=count):
                going = max(k for k in range(count + 1) if row[:k] in begun)
                text = " ".join(row)
                wanted = len(text) if going == count else len(" ".join(row[:going] + ("",)))
                self.assertEqual(raised(Formula, text), None if row in whole else (BadFormula, (wanted,)), text)

    def test_single_characters_anywhere(self):
        for code in range(32, 127):
            for text in ("{}", "{} x0", "x0{}", "x0 {}", "x0 and{}x1", "x0 and {} x1", "({}x0)", "(x0{})", "(x0){}",
                         "not {}x0", "atleast({},x0)", "atleast(1{}x0)", "atleast(1,x0{}x1)", "atleast{}(1,x0)"):
                self.check(text.replace("{}", chr(code)))

    def test_every_beginning_of_a_text(self):
        for text in TEXTS + some_formulas(40, 32):
            for end in range(len(text) + 1):
                self.check(text[:end])

    def test_tokens_left_out_twice_exchanged_or_put_in(self):
        source = random.Random(320)
        for text in some_formulas(150, 321, most=120):
            row = [word for _, word in formula_rules.tokens(text)]
            for at in range(len(row)):
                rows = [row[:at] + row[at + 1:], row[:at] + [row[at]] + row[at:],
                        row[:at] + [source.choice(WORDS)] + row[at + 1:], row[:at] + [source.choice(WORDS)] + row[at:]]
                if at:
                    rows.append(row[:at - 1] + [row[at], row[at - 1]] + row[at + 1:])
                for changed in rows:
                    self.check(formula_rules.spaced(source, changed))

    def test_rows_of_tokens_by_chance(self):
        source = random.Random(322)
        for _ in range(3000):
            self.check(formula_rules.spaced(source, source.choices(WORDS, k=source.randrange(8))))

    def test_characters_by_chance(self):
        source = random.Random(323)
        for text in some_formulas(200, 324, most=80):
            at = source.randrange(len(text))
            for letter in source.sample("x015 (),andorthes", 6):
                self.check(text[:at] + letter + text[at:])
                self.check(text[:at] + letter + text[at + 1:])
            self.check(text[:at] + text[at + 1:])

    def test_brackets_and_nots_inside_one_another(self):
        for count in range(13):
            for nots in (0, 1, 2, 19, 20):
                head, tail = ("not " * nots + "(") * count, ")" * count
                text = head + "not " * nots + "x0" + tail
                self.assertIsNone(raised(Formula, text))
                turned = nots * (count + 1) % 2
                self.assertEqual(Formula(text).seen("1"), 1 - turned)
                self.assertEqual(Formula(text).question(1).table, "10" if turned else "01")
                self.assertIsNone(Formula(text).seen("-"))
                for wrong in (text + ")", text[:-1], head, head + tail):
                    self.check(wrong)
            text = "atleast(1, 0, " * count + "x1" + ")" * count
            self.assertEqual(Formula(text).question(2).table, "0101")
            self.check("atleast(1, 0, " * count + "x1" + ")" * (count + 1))

    def test_long_texts(self):
        for text in ("x0 and " * 285 + "x1", " xor ".join(["x1"] * 285), "(" + "x0 or " * 300 + "x1)", " " * 1998 + "x0"):
            self.assertIsNone(raised(Formula, text))
        self.assertEqual(raised(Formula, "x0 and " * 285), (BadFormula, (1995,)))


class Meaning(unittest.TestCase):
    """Points 31, 33 and 34."""

    def check(self, text, patterns):
        formula = Formula(text)
        for pattern in patterns:
            found = formula.seen(pattern)
            self.assertTrue(same(found, formula_rules.seen(text, pattern)), (text, pattern))
            if found is not None:
                self.assertEqual(formula.question(len(pattern)).settled(pattern), found)

    def check_question(self, text, many):
        wanted = "".join(str(formula_rules.seen(text, one)) for one in words("01", many))
        question = Formula(text).question(many)
        self.assertIsInstance(question, Question)
        self.assertEqual([question.table, question.many], [wanted, many])

    def test_these_texts(self):
        for text in TEXTS:
            least = max([int(word[1]) + 1 for _, word in formula_rules.tokens(text) if word[0] == "x" and word != "xor"],
                        default=0)
            for many in range(least, 7):
                self.check_question(text, many)
            for many in range(least, max(least, 3) + 1):
                self.check(text, words("-01", many)[:: 1 if many < 5 else 5])

    def test_tables_written_out(self):
        for text, table in [
                ("x0", "00001111"), ("x2", "01010101"), ("not x1", "11001100"), ("0", "00000000"), ("not 0", "11111111"),
                ("not x0 and x1 or x2", "01110101"), ("x0 or x1 and x2", "00011111"), ("x0 and x1 or x2", "01010111"),
                ("x0 xor x1 and x2", "00011110"), ("x0 or x1 xor x2", "01101111"), ("x0 xor x1 xor x2", "01101001"),
                ("not x0 xor x1", "11000011"), ("not (x0 xor x1)", "11000011"), ("not x0 and x1", "00110000"),
                ("atleast(0,x0)", "11111111"), ("atleast(2,x0,x1,x2)", "00010111"), ("atleast(4,x0,x1,x2)", "00000000"),
                ("atleast(3,x0,x0,x2)", "00000101"), ("atleast(9,x0)", "00000000"), ("atleast(2,1,x1)", "00110011")]:
            self.assertEqual(Formula(text).question(3).table, table, text)

    def test_seen_written_out(self):
        for text, pattern, value in [
                ("not x0", "-", None), ("not x0", "1", 0), ("x0 and x1", "0-", 0), ("x0 and x1", "1-", None),
                ("x0 and x1", "11", 1), ("x0 or x1", "1-", 1), ("x0 or x1", "0-", None), ("x0 or x1", "00", 0),
                ("x0 xor x1", "1-", None), ("x0 xor x0", "-", None), ("x0 xor x1", "11", 0), ("x0 xor x1", "01", 1),
                ("x0 and not x0", "-", None), ("x0 or 1", "-", 1), ("x0 and 0", "-", 0), ("x0 xor 0", "-", None),
                ("atleast(0,x0)", "-", 1), ("atleast(2,x0)", "-", 0), ("atleast(1,x0)", "-", None),
                ("atleast(2,x0,x1,x2)", "0-0", 0), ("atleast(2,x0,x1,x2)", "0--", None),
                ("atleast(2,x0,x1,x2)", "1-1", 1), ("atleast(3,x0,x1,x2)", "-0-", 0), ("0", "", 0), ("1", "-", 1)]:
            self.assertTrue(same(Formula(text).seen(pattern), value), text)

    def test_formulas_by_chance(self):
        source = random.Random(34)
        for many in range(1, 5):
            for text in some_formulas(25, 340 + many, many=many, most=150):
                self.check(text, source.sample(words("-01", many), min(12, 3 ** many)))
        for text in some_formulas(40, 345, many=6):
            self.check(text, source.sample(words("-01", 6), 8))
        for text in some_formulas(30, 346, depth=3, many=3, most=120):
            self.check_question(text, source.randrange(3, 5))

    def test_the_pattern_settles_the_question(self):
        for text in some_formulas(30, 347, depth=3, many=3, most=100):
            formula, question = Formula(text), Formula(text).question(3)
            for pattern in words("-01", 3):
                found = {question(one) for one in words("01", 3) if fits(one, pattern)}
                self.assertIn(found, [{0}, {1}, {0, 1}])
                if formula.seen(pattern) is not None:
                    self.assertEqual(found, {formula.seen(pattern)})

    def test_positions(self):
        for text in TEXTS + some_formulas(60, 33):
            wanted = sorted({int(word[1]) for _, word in formula_rules.tokens(text) if word[0] == "x" and word != "xor"})
            found = Formula(text).positions()
            self.assertEqual(found, wanted)
            self.assertIsInstance(found, list)
        formula = Formula("x5 and x0 or x5 and 0 and x3")
        self.assertEqual(formula.positions(), [0, 3, 5])
        formula.positions().clear()
        self.assertEqual(formula.positions(), [0, 3, 5])
        self.assertEqual(Formula("atleast(3,1)").positions(), [])

    def test_bad_counts_and_positions(self):
        for text in ("x0", "1", "x5 or x2", "atleast(0, x3)"):
            for many in NO_COUNT:
                error, kept = raised(Formula(text).question, many)
                self.assertIs(error, BadCount)
                self.assertIs(kept[0], many)
        for text in TEXTS + ["x5 or x3 or x5", "x4 and x1", "x2 xor x2 and 0"]:
            formula = Formula(text)
            for many in range(7):
                beyond = [position for position in formula.positions() if position >= many]
                wanted = (BadPosition, (beyond[0],)) if beyond else None
                self.assertEqual(raised(formula.question, many), wanted)
                self.assertEqual(raised(formula.question, many=many), wanted)
                for pattern in ("-" * many, "0" * many):
                    self.assertEqual(raised(formula.seen, pattern), wanted)
                    self.assertEqual(raised(formula.seen, pattern=pattern), wanted)

    def test_bad_patterns(self):
        for text in ("x0", "0", "x5 or x2"):
            for value in ANY + ["0000000", "x0", ["-"], ("0", "1")]:
                if not (isinstance(value, str) and len(value) < 7 and set(value) <= set("-01")):
                    error, kept = raised(Formula(text).seen, value)
                    self.assertIs(error, BadPattern)
                    self.assertIs(kept[0], value)

    def test_equal_calls_give_equal_results(self):
        formula = Formula("x0 and not x1 or x2")
        first = [formula.positions(), formula.seen("1--"), formula.question(3).table, formula.is_once()]
        self.assertEqual([formula.positions(), formula.seen("1--"), formula.question(3).table, formula.is_once()], first)
        self.assertEqual(formula.question(3), Formula("  x0 and(not x1)or x2").question(3))


class Once(unittest.TestCase):
    """Point 35."""

    def test_these_texts(self):
        for text, wanted in [
                ("x0", True), ("not x0", True), ("((x3))", True), ("not not (x1)", True), ("x0 and x1", True),
                ("x0 and not x1", True), ("x5 or x4 and (x3 or not (x2 and x1)) or x0", True), ("x2 or x0", True),
                ("x0 and x0", False), ("x0 or not x0", False), ("x0 and (x1 or x0)", False), ("x1 and x0 and x1", False),
                ("0", False), ("1", False), ("x0 and 1", False), ("x0 or 0", False), ("not 1", False), ("(0)", False),
                ("x0 xor x1", False), ("x0 and (x1 xor x2)", False), ("atleast(1, x0)", False),
                ("atleast(2, x0, x1)", False), ("x2 or atleast(0, x0)", False), ("x0 xor x0", False)]:
            self.assertIs(Formula(text).is_once(), wanted, text)

    def test_formulas_by_chance(self):
        found = {True: 0, False: 0}
        for text in TEXTS + some_formulas(400, 35, depth=2, most=60):
            row = [word for _, word in formula_rules.tokens(text)]
            other = [word for word in row if word not in ("not", "and", "or", "(", ")")]
            wanted = all(word[0] == "x" and word != "xor" and other.count(word) == 1 for word in other)
            self.assertIs(Formula(text).is_once(), wanted)
            found[wanted] += 1
        self.assertGreater(min(found.values()), 50)


class Told(unittest.TestCase):
    """Point 36."""

    def check(self, table):
        question = Question(table)
        text = formula_of(question)
        self.assertIsInstance(text, str)
        self.assertIsNone(fault(text))
        self.assertEqual(Formula(text).question(question.many).table, table)
        self.assertEqual(formula_of(question=Question(table)), text)

    def test_all_small_questions(self):
        for many in range(4):
            for table in words("01", 2 ** many):
                self.check(table)

    def test_some_larger_questions(self):
        for many in (4, 5, 6):
            for table in some_tables(many, 40):
                self.check(table)
            for question in (Question.parity(many), Question.at_least(many, 3), Question.bit_at(many, many - 1)):
                self.check(question.table)
