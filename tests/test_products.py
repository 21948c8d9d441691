"""Points 2 and 10 to 12: products of rows with ranges."""

import itertools
import random
import unittest

import plain
from packedlanes.errors import BadLanes, BadWidth, EmptyRange, NegativeRange, TooManyLanes
from packedlanes.products import balanced_width, cut_ends, lane_ends, least_width, power_ends
from packedlanes.rows import Row

THIRTY = 10 ** 30 - 1


def rows_in(ranges):
    return list(itertools.product(*[range(least, greatest + 1) for least, greatest in ranges]))


def ranges_of(source, lanes, least, most):
    """Some ranges, about a third of them with one number only."""
    lows = [source.randint(least, most) for _ in range(source.randint(0, lanes))]
    return [(low, source.choice((low, source.randint(low, most), source.randint(low, most)))) for low in lows]


def pairs_of(seed, count, lanes=3, least=-2, most=2):
    source = random.Random(seed)
    return [(ranges_of(source, lanes, least, most), ranges_of(source, lanes, least, most)) for _ in range(count)]


def all_products(one, other):
    """The products of all rows with these ranges, with all of their lanes."""
    lanes = len(one) + len(other) - 1 if one and other else 0
    found = [plain.product(x, y) for x, y in itertools.product(rows_in(one), rows_in(other))]
    return [[plain.entry(entries, lane) for lane in range(lanes)] for entries in found]


def is_digit(worth, width, balanced):
    least = -2 ** width // 2 if balanced else 0
    return least <= worth < least + 2 ** width


class Case(plain.Case):
    def lies_in(self, rows, one, other):
        """The rows have one number of each range."""
        self.assertIsInstance(rows, tuple)
        self.assertEqual(len(rows), 2)
        for row, ranges in zip(rows, (one, other)):
            self.assertIsInstance(row, tuple)
            self.assertEqual(len(row), len(ranges))
            for worth, (least, greatest) in zip(row, ranges):
                self.assertTrue(least <= worth <= greatest)

    def refuses_empty_ranges(self, action):
        self.refused(EmptyRange, "number", 1, action, [(0, 0), (1, 0), (1, 0)], [(1, 0)])
        self.refused(EmptyRange, "number", 2, action, [(0, 0)], [(0, 0), (0, 1), (THIRTY, -THIRTY)])
        self.refused(EmptyRange, "number", 0, action, [], [(1, 0)])
        self.refused(EmptyRange, "number", 0, action, [(-1, -2)], [])


class LanesTest(Case):
    def test_example(self):
        self.assertEqual([lane_ends([(0, 3), (0, 3)], [(0, 5)]), least_width([(0, 3), (0, 3)], [(0, 5)]).width],
                         [((0, 15), (0, 15)), 4])
        self.assertEqual([balanced_width([(-2, 1)], [(-3, 3)]).width, least_width([(-2, 1)], [(-3, 3)]).width],
                         [4, None])
        ends = cut_ends([(-1, 1), (0, 1)], [(0, 2), (-1, 0)], 2, 3)
        self.assertEqual([ends.low_end, ends.high_end, power_ends([(0, 1), (1, 2)], 2)],
                         [-8, 22, ((0, 1), (0, 4), (1, 4))])

    def test_ends_as_found_one_by_one(self):
        for one, other in pairs_of(1, 60) + pairs_of(2, 40, least=0, most=3):
            found = all_products(one, other)
            self.assertEqual(lane_ends(one, other), tuple((min(lane), max(lane)) for lane in zip(*found)))

    def test_lists_and_tuples(self):
        told = (((0, 3), (0, 3)), (0, 15))
        for one in ([(0, 3), (0, 3)], ((0, 3), (0, 3)), [[0, 3], [0, 3]]):
            found = lane_ends(one, ([0, 5],))
            self.assertEqual(found, (told[1], told[1]))
            self.assertTrue(isinstance(found, tuple) and isinstance(found[0], tuple))

    def test_no_lanes(self):
        for one, other in [([], []), ([(1, 2)], []), ((), ((1, 2), (3, 4)))]:
            self.assertEqual(lane_ends(one, other), ())

    def test_ranges_of_both_signs_and_thirty_figures(self):
        self.assertEqual(lane_ends([(-THIRTY, 3)], [(-2, THIRTY)]), ((-THIRTY * THIRTY, 3 * THIRTY),))
        self.assertEqual(lane_ends([(-THIRTY, -5)], [(-THIRTY, -7), (4, 6)]),
                         ((35, THIRTY * THIRTY), (-6 * THIRTY, -20)))
        self.assertEqual(lane_ends([(-1, 2)], [(0, 3)]), ((-3, 6),))
        self.assertEqual(lane_ends([(0, 3)], [(-1, 2)]), ((-3, 6),))
        self.assertEqual(lane_ends([(THIRTY, THIRTY), (0, 0)], [(0, THIRTY), (-1, 0)]),
                         ((0, THIRTY ** 2), (-THIRTY, 0), (0, 0)))

    def test_empty_ranges(self):
        self.refuses_empty_ranges(lane_ends)

    def test_great(self):
        one, other = [(1, 2 ** 20)] * 4000, [(0, 3)] * 3000
        found = lane_ends(one, other)
        self.assertEqual((len(found), found[0], found[3500]), (6999, (0, 3 << 20), (0, 9000 << 20)))
        found = lane_ends([(-1, 2)] * 300, [(-5, 4)] * 200)
        self.assertEqual((len(found), found[0], found[250]), (499, (-10, 8), (-2000, 1600)))


class WidthTest(Case):
    def right_width(self, one, other, balanced):
        told = (balanced_width if balanced else least_width)(one, other)
        worths = [worth for entries in all_products(one, other) for worth in entries]
        if not balanced and min(worths, default=0) < 0:
            wanted = None
        else:
            fits = [width for width in range(1, 20) if all(is_digit(worth, width, balanced) for worth in worths)]
            self.assertEqual(fits, list(range(fits[0], 20)))
            wanted = fits[0]
        self.assertEqual(told.width, wanted)
        if told.width == 1:
            self.assertEqual((told.lane, told.spoiling), (None, None))
        else:
            self.right_spoiling(told, one, other, balanced)
        return told.width

    def right_spoiling(self, told, one, other, balanced):
        self.lies_in(told.spoiling, one, other)
        worth = plain.entry(plain.product(*told.spoiling), told.lane)
        if told.width is None:
            self.assertLess(worth, 0)
        else:
            self.assertFalse(is_digit(worth, told.width - 1, balanced))

    def test_least_width_as_found_one_by_one(self):
        samples = pairs_of(3, 50) + pairs_of(4, 60, least=0) + pairs_of(5, 30, least=0, most=1)
        seen = {self.right_width(one, other, False) for one, other in samples}
        self.assertTrue({None, 1, 2, 3, 4} <= seen)

    def test_balanced_width_as_found_one_by_one(self):
        samples = pairs_of(6, 80) + pairs_of(7, 40, least=-1, most=0) + pairs_of(8, 20, least=0)
        seen = {self.right_width(one, other, True) for one, other in samples}
        self.assertTrue({1, 2, 3, 4} <= seen)

    def test_width_1(self):
        for one, other in [([(0, 1)], [(0, 1), (0, 0)]), ([], []), ([(5, 9)], []), ([(0, 0)], [(-THIRTY, THIRTY)])]:
            found = least_width(one, other)
            self.assertEqual((found.width, found.lane, found.spoiling), (1, None, None))
        for one, other in [([(-1, 0)], [(0, 1)]), ([], [(2, 3)]), ([(0, 0)], [(-THIRTY, THIRTY)])]:
            found = balanced_width(one, other)
            self.assertEqual((found.width, found.lane, found.spoiling), (1, None, None))

    def test_ends_of_the_widths(self):
        for bits in (1, 2, 3, 40):
            self.assertEqual(least_width([(0, 2 ** bits - 1)], [(1, 1)]).width, bits)
            self.assertEqual(least_width([(0, 2 ** bits)], [(1, 1)]).width, bits + 1)
            self.assertEqual(balanced_width([(0, 2 ** bits - 1)], [(1, 1)]).width, bits + 1)
            self.assertEqual(balanced_width([(0, 2 ** bits)], [(1, 1)]).width, bits + 2)
            self.assertEqual(balanced_width([(-2 ** bits, 0)], [(1, 1)]).width, bits + 1)
            self.assertEqual(balanced_width([(-2 ** bits - 1, 0)], [(1, 1)]).width, bits + 2)

    def test_no_width(self):
        found = least_width([(0, 9), (-1, 4)], [(0, 3), (2, 2)])
        self.assertIsNone(found.width)
        self.right_spoiling(found, [(0, 9), (-1, 4)], [(0, 3), (2, 2)], False)
        self.assertIsNone(least_width([(0, 1)], [(-THIRTY, THIRTY)]).width)

    def test_thirty_figures(self):
        ranges = [(THIRTY - 5, THIRTY), (0, 1)]
        found = least_width(ranges, ranges)
        self.assertEqual(found.width, (THIRTY ** 2).bit_length())
        self.right_spoiling(found, ranges, ranges, False)
        ranges = [(-THIRTY, 7), (-3, THIRTY), (2, 2)]
        found = balanced_width(ranges, [(-2, 2)] * 2)
        self.assertEqual(found.width, (4 * THIRTY).bit_length() + 1)
        self.right_spoiling(found, ranges, [(-2, 2)] * 2, True)

    def test_empty_ranges(self):
        self.refuses_empty_ranges(least_width)
        self.refuses_empty_ranges(balanced_width)


class CutTest(Case):
    def right_ends(self, found, one, other, lanes, width):
        """The rows that are told lie in the ranges, and give the ends."""
        for rows, end in [(found.low_rows, found.low_end), (found.high_rows, found.high_end)]:
            self.lies_in(rows, one, other)
            self.assertEqual(plain.number(plain.product(*rows)[:lanes], width), end)

    def test_ends_as_found_one_by_one(self):
        for number, (one, other) in enumerate(pairs_of(9, 60)):
            found = all_products(one, other)
            width = number % 4 + 1
            for lanes in range(7):
                numbers = [plain.number(entries[:lanes], width) for entries in found]
                ends = cut_ends(one, other, lanes, width)
                self.assertEqual((ends.low_end, ends.high_end), (min(numbers), max(numbers)))
                self.right_ends(ends, one, other, lanes, width)

    def test_lists_of_unlike_lengths_at_ends(self):
        source = random.Random(10)
        for few, many in [(1, 9), (2, 8), (4, 6), (0, 5)]:
            one = [(low, low + source.choice((0, 1, 50))) for low in (source.randint(-40, 20) for _ in range(few))]
            other = [(low, low + source.choice((0, 1, 50))) for low in (source.randint(-40, 20) for _ in range(many))]
            for lanes in (0, 1, 2, few, many - 1, many, few + many - 1, few + many, 50):
                ends = [plain.number(plain.product(x, y)[:lanes], 5)
                        for x in itertools.product(*one) for y in itertools.product(*other)]
                for first, second in [(one, other), (other, one)]:
                    found = cut_ends(first, second, lanes, 5)
                    self.assertEqual((found.low_end, found.high_end), (min(ends), max(ends)))
                    self.right_ends(found, first, second, lanes, 5)

    def test_no_lanes(self):
        found = cut_ends([(2, 3)], [(-5, 5), (4, 4)], 0, 1)
        self.assertEqual((found.low_end, found.high_end), (0, 0))
        self.right_ends(found, [(2, 3)], [(-5, 5), (4, 4)], 0, 1)
        found = cut_ends([], [(1, 2)] * 20, 5, 3)
        self.assertEqual((found.low_end, found.high_end), (0, 0))
        self.right_ends(found, [], [(1, 2)] * 20, 5, 3)

    def test_more_lanes_than_there_are(self):
        ranges = [(-3, 4), (1, 7)]
        for lanes in (3, 4, 10 ** 30):
            found = cut_ends(ranges, ranges, lanes, 3)
            self.assertEqual((found.low_end, found.high_end), (5 * 5, 60 * 60))
            self.right_ends(found, ranges, ranges, lanes, 3)

    def test_thirty_figures(self):
        found = cut_ends([(-THIRTY, THIRTY)], [(-THIRTY, 5), (0, THIRTY)], 1, 4000)
        self.assertEqual((found.low_end, found.high_end), (-THIRTY ** 2, THIRTY ** 2))
        self.right_ends(found, [(-THIRTY, THIRTY)], [(-THIRTY, 5), (0, THIRTY)], 1, 4000)

    def test_lists_of_10_and_of_11_ranges(self):
        ten, eleven = [(-1, 1)] * 10, [(-1, 1)] * 11
        for one, other in [(ten, ten), (ten, eleven), (eleven, ten), ([(0, 1)] * 300, ten)]:
            found = cut_ends(one, other, 12, 2)
            self.right_ends(found, one, other, 12, 2)
            self.assertLess(found.low_end, found.high_end)
        # With a long list, only the choices in the short one can be looked at one by one.
        wanted = plain.number(plain.product([1] * 10, [1] * 300)[:300], 2)
        for one, other in [([(0, 1)] * 300, ten), (ten, [(0, 1)] * 300)]:
            self.assertEqual(cut_ends(one, other, 300, 2).high_end, wanted)
        self.refused(TooManyLanes, "lanes", 11, cut_ends, eleven, eleven, 1, 1)
        self.refused(TooManyLanes, "lanes", 11, cut_ends, eleven, [(0, 0)] * 12, 0, 1)
        self.refused(TooManyLanes, "lanes", 12, cut_ends, [(0, 0)] * 30, [(0, 0)] * 12, 3, 1)

    def test_great(self):
        one, other = [(-5, 7)] * 10, [(-9, 2 ** 30)] * 2000
        found = cut_ends(one, other, 2004, 64)
        self.right_ends(found, one, other, 2004, 64)
        self.assertEqual(found.high_end, plain.number(plain.product([7] * 10, [2 ** 30] * 2000)[:2004], 64))

    def test_order_of_errors(self):
        eleven = [(0, 1)] * 11
        self.refuses_empty_ranges(lambda one, other: cut_ends(one, other, -1, 0))
        self.refused(EmptyRange, "number", 11, cut_ends, eleven, eleven + [(1, 0)], -1, 0)
        self.refused(BadLanes, "lanes", -1, cut_ends, eleven, eleven, -1, 0)
        self.refused(BadWidth, "width", 0, cut_ends, eleven, eleven, 0, 0)
        self.refused(BadWidth, "width", -7, cut_ends, [], [], 3, -7)


class PowerTest(Case):
    def test_ends_as_found_one_by_one(self):
        source = random.Random(11)
        for ranges in [ranges_of(source, 3, 0, 2) for _ in range(40)]:
            powers = [[(1,)] * len(rows_in(ranges))]
            for exponent in range(4):
                highs = [plain.cut([greatest for _, greatest in ranges])]
                lanes = len(Row(highs[0]).power(exponent).entries)
                found = [[plain.entry(entries, lane) for lane in range(lanes)] for entries in powers[-1]]
                self.assertEqual(power_ends(ranges, exponent), tuple((min(lane), max(lane)) for lane in zip(*found)))
                powers.append([plain.product(entries, row) for entries, row in zip(powers[-1], rows_in(ranges))])

    def test_exponent_0(self):
        for ranges in ([], [(0, 0)], [(0, 5), (2, 3)], [[THIRTY, THIRTY]]):
            self.assertEqual(power_ends(ranges, 0), ((1, 1),))

    def test_ranges_that_are_all_0(self):
        for exponent in (1, 2, 10 ** 30):
            self.assertEqual(power_ends([(0, 0), (0, 0)], exponent), ())
            self.assertEqual(power_ends((), exponent), ())

    def test_zeros_at_the_end_do_not_count(self):
        self.assertEqual(power_ends([(1, 2), (0, 0)], 3), ((1, 8),))
        self.assertEqual(power_ends([(0, 0), (0, 1), (0, 0)], 2), ((0, 0), (0, 0), (0, 1)))
        self.assertEqual(power_ends([(2, 3), (0, 1)], 1), ((2, 3), (0, 1)))

    def test_great(self):
        found = power_ends([(0, 1), (1, 1)], 1000)
        self.assertEqual((len(found), found[0], found[1000], found[999]), (1001, (0, 1), (1, 1), (0, 1000)))
        self.assertEqual(power_ends([(0, THIRTY)], 9), ((0, THIRTY ** 9),))

    def test_order_of_errors(self):
        self.refused(EmptyRange, "number", 1, power_ends, [(-1, 0), (1, 0)], -1)
        self.refused(BadLanes, "lanes", -1, power_ends, [(-1, 0)], -1)
        self.refused(BadLanes, "lanes", -4, power_ends, [], -4)
        self.refused(NegativeRange, "number", 1, power_ends, [(0, 0), (-1, 0), (-5, 5)], 0)
        self.refused(NegativeRange, "number", 0, power_ends, [(-1, THIRTY)], 3)


if __name__ == "__main__":
    unittest.main()
