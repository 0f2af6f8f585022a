"""Points 7, 111 and 112."""

import copy
import random
import signal
import unittest
from fractions import Fraction
from itertools import combinations

from leastlooks.straight import best_sum, fraction, is_best_sum, is_fraction
from tests.samples import ANY, same

LARGE = 10 ** 40 - 1


def pair(number):
    return Fraction(number).numerator, Fraction(number).denominator


def whole(item):
    return Fraction(*item)


def holds(rows, limits, gains, found):
    """Point 112, for a tuple of fractions."""
    value, parts, prices = whole(found[0]), [whole(one) for one in found[1]], [whole(one) for one in found[2]]
    return (len(parts) == len(gains) and len(prices) == len(rows) and all(one >= 0 for one in parts + prices) and
            all(sum(a * b for a, b in zip(row, parts)) <= limit for row, limit in zip(rows, limits)) and
            all(sum(row[k] * one for row, one in zip(rows, prices)) >= gain for k, gain in enumerate(gains)) and
            sum(a * b for a, b in zip(gains, parts)) == value == sum(a * b for a, b in zip(limits, prices)))


def solved(lines):
    """The only solution of as many equations as unknowns, or None."""
    lines = [[Fraction(one) for one in line] for line in lines]
    for at in range(len(lines)):
        found = [line for line in lines[at:] if line[at]]
        if not found:
            return None
        lines.remove(found[0])
        lines.insert(at, [one / found[0][at] for one in found[0]])
        lines = [line if line is lines[at] else [a - line[at] * b for a, b in zip(line, lines[at])] for line in lines]
    return [line[-1] for line in lines]


def least_prices(rows, limits, gains):
    """The least sum of limits by prices, over all corners; None if no prices cover the gains."""
    many = len(rows)
    bounds = [[row[k] for row in rows] + [gain] for k, gain in enumerate(gains)]
    bounds += [[int(k == at) for k in range(many)] + [0] for at in range(many)]
    best = None
    for chosen in combinations(bounds, many):
        found = solved(chosen)
        if found is not None and all(sum(a * b for a, b in zip(line, found)) >= line[-1] for line in bounds):
            value = sum(a * b for a, b in zip(limits, found))
            best = value if best is None else min(best, value)
    return best


def sums(source, count, most_rows, most_gains, kinds):
    """So many rows, limits and gains."""
    for _ in range(count):
        many, width = source.randint(0, most_rows), source.randint(0, most_gains)
        number = lambda: source.choice(source.choice(kinds))
        rows = [[number() for _ in range(width)] for _ in range(many)]
        if many > 1 and source.random() < 0.3:
            rows[0] = list(rows[-1])
        limits = [source.choice((0, 0, 1, 2, abs(number()))) for _ in range(many)]
        if source.random() < 0.25:
            limits = [0] * many
        yield rows, limits, [number() for _ in range(width)]


KINDS = [(0, 0, 1), (-1, 0, 1), (1, 2, 3), (-5, -2, 3, 7)]
HUGE = [(0, 1, -1), (LARGE, LARGE - 1, 10 ** 20), (-LARGE, 3)]


class Fractions(unittest.TestCase):
    """Point 111."""

    def test_against_pythons_own(self):
        source = random.Random(111)
        numbers = [0, 1, -1, 2, 6, -4, 12, 10 ** 20, LARGE, -LARGE, 6 ** 50, 2 ** 130, -(2 ** 100 * 3 ** 15)]
        numbers += [source.randrange(-10 ** 39, 10 ** 39) * source.choice((1, 6)) for _ in range(20)]
        for top in numbers:
            for bottom in numbers:
                if bottom != 0:
                    self.assertTrue(same(fraction(top, bottom), pair(Fraction(top, bottom))))
                    self.assertIs(is_fraction(fraction(top, bottom)), True)
        self.assertTrue(same([fraction(bottom=-7, top=0), fraction(bottom=-2, top=-4)], [(0, 1), (2, 1)]))

    def test_is_fraction(self):
        for top in range(-12, 13):
            for bottom in range(-12, 13):
                wanted = bottom > 0 and pair(Fraction(top, bottom)) == (top, bottom)
                self.assertIs(is_fraction((top, bottom)), wanted)
                self.assertIs(is_fraction((top * LARGE, bottom * LARGE)), False)
                self.assertIs(is_fraction([top, bottom]), False)
                self.assertIs(is_fraction((top, bottom, 1)), False)
        self.assertIs(is_fraction(value=(LARGE, LARGE - 1)), True)

    def test_other_values(self):
        for value in ANY + ["1/2", "12", (), (1,), (1, 2, 3), {1: 2}, {0: 0, 1: 1}, ((1, 2), (1, 2)), 0.5]:
            self.assertIs(is_fraction(value), False)
        for wrong in (True, False, None, "1", "", [1], (1,), {}):
            for value in ((wrong, 1), (1, wrong), (wrong, wrong), (0, wrong)):
                self.assertIs(is_fraction(value), False)


class Greatest(unittest.TestCase):
    """Point 112."""

    def check(self, rows, limits, gains):
        before = copy.deepcopy((rows, limits, gains))
        found = best_sum(rows, limits, gains)
        self.assertEqual((rows, limits, gains), before)
        if found is None:
            self.assertIs(is_best_sum(rows, limits, gains, None), False)
            self.check_no_greatest(rows, limits, gains)
            return
        self.assertIs(found.__class__, tuple)
        value, parts, prices = found
        self.assertTrue(isinstance(parts, list) and isinstance(prices, list))
        self.assertTrue(all(is_fraction(one) for one in [value, *parts, *prices]))
        self.assertTrue(holds(rows, limits, gains, found))
        self.assertIs(is_best_sum(rows, limits, gains, found), True)

    def check_no_greatest(self, rows, limits, gains):
        # With a limit for the sum of all parts there is a greatest sum, which grows with this limit for ever.
        whole_row = [1] * len(gains)
        values = []
        for limit in (10 ** 400, 10 ** 401):
            value, parts, _ = best_sum(rows + [whole_row], limits + [limit], gains)
            self.assertTrue(all(sum(a * whole(b) for a, b in zip(row, parts)) <= most
                                for row, most in zip(rows, limits)))
            self.assertEqual(sum(a * whole(b) for a, b in zip(gains, parts)), whole(value))
            values.append(whole(value))
        self.assertGreater(values[1], values[0] + 10 ** 300)

    def test_all_sizes(self):
        source = random.Random(112)
        for given in sums(source, 1500, 8, 8, KINDS):
            self.check(*given)
        for given in sums(source, 200, 8, 8, HUGE):
            self.check(*given)

    def test_full_sizes(self):
        source = random.Random(1120)
        for kinds in (KINDS, [(0, 1)], [(-1, 0, 1)], [(1, 2, 3)], HUGE):
            for _ in range(60):
                number = lambda: source.choice(source.choice(kinds))
                rows = [[number() for _ in range(8)] for _ in range(8)]
                limits = [source.choice((0, 0, 1, 5)) for _ in range(8)]
                self.check(rows, limits, [abs(number()) for _ in range(8)])
                self.check(rows, [0] * 8, [number() for _ in range(8)])

    def test_against_all_corners(self):
        source = random.Random(11200)
        for rows, limits, gains in sums(source, 700, 3, 3, KINDS):
            found = best_sum(rows, limits, gains)
            wanted = least_prices(rows, limits, gains)
            self.assertEqual(found is None, wanted is None, (rows, limits, gains))
            if found is not None:
                self.assertEqual(found[0], pair(wanted))

    def test_no_rows_and_no_gains(self):
        zero = (0, 1)
        self.assertTrue(same(best_sum([], [], []), (zero, [], [])))
        self.assertTrue(same(best_sum([[], []], [0, 3], []), (zero, [], [zero, zero])))
        self.assertTrue(same(best_sum([], [], [0, -2]), (zero, [zero, zero], [])))
        self.assertIsNone(best_sum([], [], [0, 1]))
        self.assertIsNone(best_sum([[0]], [0], [1]))
        self.assertIs(is_best_sum([], [], [], ((0, 1), [], [])), True)

    def test_no_turns_lead_round_in_a_ring(self):
        # With other choices among several columns, or several lines, the turns would come back to where they began.
        rings = [([[25, -6000, -4, 900], [25, -4500, -1, 150], [0, 0, 1, 0]], [0, 0, 1], [75, -15000, 2, -600]),
                 ([[-3, 0, -8, -7, 6], [6, -5, -6, -5, -4], [7, -2, 4, 4, -8]], [0] * 3, [-7, -4, 2, 8, -2]),
                 ([[2, 8, -1, 2, -4], [-8, -4, -3, -2, -1], [0, 0, -9, -1, -8]], [0] * 3, [3, 7, -3, 5, -1]),
                 ([[4, 9, 7, 5], [7, 1, 1, 0], [7, 6, -1, -1]], [0] * 3, [-2, 8, 8, 8])]
        signal.signal(signal.SIGALRM, lambda *_: self.fail("no end"))
        signal.alarm(20)
        try:
            for given in rings:
                self.check(*given)
        finally:
            signal.alarm(0)
        self.assertEqual(best_sum(*rings[0])[0], (5, 1))

    def test_tuples_and_names(self):
        found = best_sum(gains=(1, 1), limits=(4, 5), rows=((2, 1), (1, 3)))
        self.assertEqual(found, ((13, 5), [(7, 5), (6, 5)], [(2, 5), (1, 5)]))
        told = (found[0], tuple(found[1]), tuple(found[2]))
        self.assertIs(is_best_sum(value=told, gains=(1, 1), limits=(4, 5), rows=([2, 1], (1, 3))), True)
        found[1].clear()
        found[2].clear()
        self.assertEqual(best_sum([[2, 1], [1, 3]], [4, 5], [1, 1])[1:], ([(7, 5), (6, 5)], [(2, 5), (1, 5)]))


class Judged(unittest.TestCase):
    """Point 112."""

    def test_changes_of_the_told_tuple(self):
        source = random.Random(1121)
        for rows, limits, gains in sums(source, 150, 5, 5, KINDS):
            found = best_sum(rows, limits, gains)
            if found is not None:
                self.check_changes(rows, limits, gains, found)

    def check_changes(self, rows, limits, gains, found):
        value, parts, prices = found
        for other in [None, [], [value, parts, prices], (value, parts), (value, parts, prices, []), (), value,
                      (None, parts, prices), (value, None, prices), (value, parts, None), (list(value), parts, prices),
                      (value[0], parts, prices), (value, {}, prices), (value, parts, "") if prices else None,
                      (value, dict(enumerate(parts)), prices), (value, "", prices) if parts else None]:
            self.assertIs(is_best_sum(rows, limits, gains, other), False, other)
        for change in (Fraction(1, 3), 1, -1, Fraction(1, 10 ** 30)):
            self.assertIs(is_best_sum(rows, limits, gains, (pair(whole(value) + change), parts, prices)), False)
        self.check(rows, limits, gains, (value, prices, parts))
        for at, numbers in ((1, parts), (2, prices)):
            for other in (numbers[1:], numbers[:-1], numbers + [(0, 1)], [(0, 1)] + numbers):
                if len(other) != len(numbers):
                    self.assertIs(is_best_sum(rows, limits, gains, found[:at] + (other,) + found[at + 1:]), False)
            for place, number in enumerate(numbers):
                top, bottom = number
                for one in ([top, bottom], (2 * top, 2 * bottom), (-top, -bottom), top, None, True, "0", (top,),
                            (top, bottom, 1), (top, True) if bottom == 1 else (True, bottom), (-1, 1), (top, 0)):
                    other = numbers[:place] + [one] + numbers[place + 1:]
                    self.assertIs(is_best_sum(rows, limits, gains, found[:at] + (other,) + found[at + 1:]), False, one)
                for change in (Fraction(1, 7), Fraction(-1, 7), 1, -1, Fraction(1, 10 ** 30)):
                    other = numbers[:place] + [pair(whole(number) + change)] + numbers[place + 1:]
                    self.check(rows, limits, gains, found[:at] + (other,) + found[at + 1:])

    def check(self, rows, limits, gains, told):
        self.assertIs(is_best_sum(rows, limits, gains, told), holds(rows, limits, gains, told), told)

    def test_parts_and_prices_that_fall_short(self):
        rows, limits, gains = [[2, 1], [1, 3]], [4, 5], [1, 1]
        best = ((13, 5), [(7, 5), (6, 5)], [(2, 5), (1, 5)])
        self.assertIs(is_best_sum(rows, limits, gains, best), True)
        for told in (((2, 1), [(2, 1), (0, 1)], [(1, 2), (0, 1)]), ((0, 1), [(0, 1), (0, 1)], [(0, 1), (0, 1)]),
                     ((4, 1), [(4, 1), (0, 1)], [(1, 1), (0, 1)]), ((13, 5), [(13, 5), (0, 1)], best[2]),
                     ((13, 5), best[1], [(13, 20), (0, 1)]), ((13, 5), best[1], [(0, 1), (13, 25)])):
            self.assertIs(is_best_sum(rows, limits, gains, told), False)

    def test_truth_values_are_no_numbers(self):
        for total, part, price in (((True, 1), (1, 1), (1, 1)), ((1, True), (1, 1), (1, 1)), ((1, 1), (True, 1), (1, 1)),
                                   ((1, 1), (1, True), (1, 1)), ((1, 1), (1, 1), (True, 1)), ((1, 1), (1, 1), (1, True)),
                                   ((1, 1), True, (1, 1)), (True, (1, 1), (1, 1))):
            self.assertIs(is_best_sum([[1]], [1], [1], (total, [part], [price])), False)
        self.assertIs(is_best_sum([[1]], [1], [1], ((1, 1), [(1, 1)], [(1, 1)])), True)
        self.assertIs(is_best_sum([], [], [], ((False, 1), [], [])), False)

    def test_several_right_tuples(self):
        for told in (((1, 1), [(1, 1), (0, 1)], [(1, 1)]), ((1, 1), [(0, 1), (1, 1)], [(1, 1)]),
                     ((1, 1), ((1, 3), (2, 3)), ((1, 1),))):
            self.assertIs(is_best_sum([[1, 1]], [1], [1, 1], told), True)

    def test_other_values(self):
        for value in ANY:
            self.assertIs(is_best_sum([[1]], [1], [1], value), False)
            self.assertIs(is_best_sum([], [], [], value), False)
            self.assertIs(is_best_sum([], [], [], (value, [], [])), False)
            self.assertIs(is_best_sum([], [], [], ((0, 1), value, [])), value in ([], ()))
            self.assertIs(is_best_sum([], [], [], ((0, 1), (), value)), value in ([], ()))
            self.assertIs(is_best_sum([[1]], [1], [1], ((1, 1), [value], [(1, 1)])), False)
