"""Points 2, 4, 7 and 11 to 16."""

import copy
import random
import unittest
from itertools import permutations

from leastlooks.errors import BadBit, BadBlock, BadCount, BadInput, BadPattern, BadPosition, UnlikeSizes
from leastlooks.patterns import (
    common, differ, fits, fitting, inputs, is_input, is_pattern, known, meet, part, patterns, size, turned,
    with_bit, without)
from tests import samples
from tests.samples import ANY, raised, same, words

PATTERNS = [word for many in range(4) for word in words("-01", many)]
LONG = ["------", "000000", "1-0-1-", "01-10", "-1-1-", "11111", "0---"]
NO_INPUT = [value for value in ANY if not (isinstance(value, str) and value in
            [word for many in range(7) for word in words("01", many)])] + ["-", "0-", "01-"]
NO_PATTERN = [value for value in NO_INPUT if not (isinstance(value, str) and value in
              [word for many in range(7) for word in words("-01", many)])]
NO_BIT = [None, True, False, 2, -1, "0", "1", "", [0], (1,), {}, 10 ** 39]


def no_positions(many):
    return [None, True, False, -1, many, many + 1, 10 ** 39, "0", "", [0], (0,), {0: 0}]


def no_blocks(many):
    """Values that are no blocks of so many positions, 2 or more."""
    return [
        None, True, 0, "", "0", "01", {}, {0: 1}, {0}, [many], [-1], [0, 0], [0, 1, 0], (1, 1), [True], [False], [0, True],
        ["0"], [None], [[0]], [(0,)], [0, 10 ** 39], list(range(many + 1)), (0, many), [-many]]


class Kinds(unittest.TestCase):
    """Point 11."""

    def test_every_short_string(self):
        for many in range(8):
            letters = "01-" if many < 7 else "0-"
            for word in words(letters, many):
                self.assertIs(is_input(word), many < 7 and "-" not in word, word)
                self.assertIs(is_pattern(word), many < 7, word)

    def test_other_characters_anywhere(self):
        for code in range(32, 127):
            letter = chr(code)
            for word in (letter, "0" + letter, letter + "1", "01" + letter + "01", letter * 6):
                self.assertIs(is_input(word), letter in "01", word)
                self.assertIs(is_pattern(word), letter in "01-", word)

    def test_long_strings(self):
        for word in ("0" * 7, "1" * 64, "-" * 7, "01" * 1000):
            self.assertIs(is_input(word), False)
            self.assertIs(is_pattern(word), False)

    def test_other_values(self):
        for value in ANY:
            if not isinstance(value, str):
                self.assertIs(is_input(value), False, repr(value))
                self.assertIs(is_pattern(value), False, repr(value))
        for value in (["0", "1"], ("0",), ["01"], 1, {"0": "1"}):
            self.assertIs(is_input(value), False)
            self.assertIs(is_pattern(value=value), False)


class Lists(unittest.TestCase):
    """Point 12."""

    def test_all_of_them_in_ascending_order(self):
        for many in range(7):
            self.assertEqual(inputs(many), words("01", many))
            self.assertEqual(patterns(many), words("-01", many))
            self.assertEqual(len(inputs(many)), 2 ** many)
            self.assertEqual(len(patterns(many=many)), 3 ** many)
            self.assertEqual(patterns(many), sorted(patterns(many)))
        self.assertEqual([inputs(0), patterns(0)], [[""], [""]])

    def test_bad_counts(self):
        for many in (True, False, -1, 7, 8, 10 ** 39, -10 ** 39, "2", "", None, [], [2], (2,), {}, {2: 2}):
            for deed in (inputs, patterns):
                error, kept = raised(deed, many)
                self.assertIs(error, BadCount)
                self.assertTrue(same(list(kept), [many]))

    def test_a_returned_list_is_new(self):
        for deed in (inputs, patterns):
            for many in range(4):
                deed(many).append("changed")
                deed(many).clear()
                self.assertEqual(deed(many), words("01" if deed is inputs else "-01", many))


class One(unittest.TestCase):
    """Point 13."""

    def test_every_pattern(self):
        for many in range(7):
            texts = words("01", many)
            for pattern in words("-01", many)[:: 1 if many < 6 else 7] + ["-" * many, "1" * many]:
                places = [k for k in range(many) if pattern[k] in "01"]
                self.assertEqual(known(pattern), places)
                self.assertEqual(size(pattern), len(places))
                self.assertEqual(fitting(pattern), [text for text in texts if samples.fits(text, pattern)])

    def test_names_and_new_lists(self):
        known("0-1").append(5)
        fitting("0-1").append("x")
        self.assertEqual(known(pattern="0-1"), [0, 2])
        self.assertEqual(fitting(pattern="0-1"), ["001", "011"])
        self.assertEqual(size(pattern="0-1"), 2)

    def test_bad_patterns(self):
        for value in NO_PATTERN:
            for deed in (known, size, fitting):
                error, kept = raised(deed, value)
                self.assertIs(error, BadPattern)
                self.assertIs(kept[0], value)


class Two(unittest.TestCase):
    """Point 14."""

    def pairs(self):
        source = random.Random(14)
        for many in range(7):
            every = words("-01", many)
            for first in every if many < 4 else source.sample(every, 40):
                for second in every if many < 4 else source.sample(every, 40):
                    yield first, second

    def test_pairs_of_one_length(self):
        for first, second in self.pairs():
            places = range(len(first))
            both = [k for k in places if first[k] != "-" and second[k] != "-"]
            apart = [k for k in both if first[k] != second[k]]
            self.assertIs(fits(first, second), samples.fits(first, second))
            self.assertEqual(differ(first, second), apart)
            either = "".join(max(first[k], second[k]) for k in places)
            self.assertEqual(meet(first, second), None if apart else either)
            shared = "".join(first[k] if k in both and k not in apart else "-" for k in places)
            self.assertEqual(common(first, second), shared)

    def test_names(self):
        self.assertIs(fits(second="0-", first="01"), True)
        self.assertEqual(differ(second="0-", first="11"), [0])
        self.assertEqual(meet(second="0-", first="-1"), "01")
        self.assertEqual(common(second="0-", first="01"), "0-")

    def test_unlike_lengths(self):
        every = PATTERNS + LONG
        for first in every:
            for second in every:
                if len(first) != len(second):
                    wanted = (UnlikeSizes, (len(first), len(second)))
                    for deed in (fits, differ, meet, common):
                        self.assertEqual(raised(deed, first, second), wanted)

    def test_bad_patterns_come_first(self):
        for deed in (fits, differ, meet, common):
            for value in NO_PATTERN:
                for other in ("", "0-1", "0000000", None, [1]):
                    error, kept = raised(deed, value, other)
                    self.assertIs(error, BadPattern)
                    self.assertIs(kept[0], value)
                for other in ("", "0-1", "------"):
                    error, kept = raised(deed, other, value)
                    self.assertIs(error, BadPattern)
                    self.assertIs(kept[0], value)


class Bits(unittest.TestCase):
    """Point 15."""

    def test_each_position_and_bit(self):
        for pattern in PATTERNS + LONG:
            for position in range(len(pattern)):
                head, tail = pattern[:position], pattern[position + 1:]
                self.assertEqual(with_bit(pattern, position, 0), head + "0" + tail)
                self.assertEqual(with_bit(pattern, position, 1), head + "1" + tail)
                self.assertEqual(without(pattern, position), head + "-" + tail)

    def test_names(self):
        self.assertEqual(with_bit(bit=1, position=0, pattern="-0"), "10")
        self.assertEqual(without(position=0, pattern="10"), "-0")

    def test_bad_patterns(self):
        for value in NO_PATTERN:
            for position in (0, -1, True, "0"):
                for bit in (0, 1, 2, None):
                    self.assertEqual(raised(with_bit, value, position, bit), (BadPattern, (value,)))
                self.assertEqual(raised(without, value, position), (BadPattern, (value,)))

    def test_bad_positions(self):
        for pattern in PATTERNS + LONG:
            for position in no_positions(len(pattern)):
                for bit in (0, 1, 2, "1"):
                    error, kept = raised(with_bit, pattern, position, bit)
                    self.assertIs(error, BadPosition)
                    self.assertIs(kept[0], position)
                error, kept = raised(without, pattern, position)
                self.assertIs(error, BadPosition)
                self.assertIs(kept[0], position)

    def test_bad_bits(self):
        for bit in NO_BIT:
            error, kept = raised(with_bit, "0-1", 1, bit)
            self.assertIs(error, BadBit)
            self.assertIs(kept[0], bit)


class Blocks(unittest.TestCase):
    """Point 16."""

    def test_all_blocks_in_any_order(self):
        for text in ["", "0", "1", "01", "110", "0110", "000000", "101101"]:
            many = len(text)
            for count in range(min(many, 4) + 1):
                for block in permutations(range(many), count):
                    kept = "".join(text[k] if k in block else "-" for k in range(many))
                    for given in (block, list(block)):
                        self.assertEqual(turned(text, given), samples.flipped(text, block))
                        self.assertEqual(part(text, given), kept)

    def test_all_positions_and_none(self):
        for many in range(7):
            for text in words("01", many):
                every = list(reversed(range(many)))
                self.assertEqual(turned(text, every), text.translate({48: "1", 49: "0"}))
                self.assertEqual(part(text, every), text)
                self.assertEqual([turned(text, []), part(text, ())], [text, "-" * many])

    def test_names_and_passed_lists(self):
        block = [2, 0]
        self.assertEqual(turned(block=block, text="010"), "111")
        self.assertEqual(part(block=block, text="010"), "0-0")
        self.assertEqual(block, [2, 0])

    def test_bad_inputs_come_first(self):
        for value in NO_INPUT:
            for block in ([], [0], [0, 0], None, True, "0", [-1]):
                for deed in (turned, part):
                    error, kept = raised(deed, value, block)
                    self.assertIs(error, BadInput)
                    self.assertIs(kept[0], value)

    def test_bad_blocks(self):
        for text in ("00", "011", "010101"):
            for block in no_blocks(len(text)):
                before = copy.deepcopy(block)
                for deed in (turned, part):
                    error, kept = raised(deed, text, block)
                    self.assertIs(error, BadBlock, block)
                    self.assertIs(kept[0], block)
                self.assertTrue(block == before)
        for block in ([0], [-1], (0,), [None], None, ""):
            self.assertEqual(raised(turned, "", block), (BadBlock, (block,)))
        for block in (samples.Question("01"), samples.Formula("x0")):
            self.assertIs(raised(part, "00", block)[1][0], block)
