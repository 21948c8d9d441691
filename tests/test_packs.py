"""Points 1, 4, 6, 7 and 8: packs, their digits, and quotients that packs show."""

import itertools
import unittest

import plain
from packedlanes.errors import BadLanes, BadWidth, Negative, NotPositive, OtherWidth
from packedlanes.packs import Pack, packed
from packedlanes.rows import Row

NUMBERS = [0, 1, -1, 2, -2, 7, 8, -8, -9, 255, 256, -256, 509, -509, 10 ** 30, -(10 ** 30), 2 ** 99, -(2 ** 99)]
NUMBERS += [2 ** 100 - 1, 1 - 2 ** 100]


class PacksTest(plain.Case):
    def test_example(self):
        x = Row([3, 0, -2, 0])
        p = packed(x, 4)
        self.assertEqual([p.number, p.digits(4), p.balanced(4), p.balanced_row() == x],
                         [-509, (3, 0, 14, 15), (3, 0, -2, 0), True])
        self.assertEqual([p.over(Row([-1, 1])).number, p.rest(Row([-1, 1])).number, p.down(1).number,
                          Pack(4, 35).plain_row().entries], [-34, 1, -32, (3, 2)])

    # Points 1 and 4: one number does for all lanes.

    def test_attributes(self):
        pack = Pack(7, -5)
        self.assertEqual((pack.width, pack.number), (7, -5))
        pack = Pack(number=3, width=1)
        self.assertEqual((pack.width, pack.number), (1, 3))

    def test_packed(self):
        for entries in plain.rows_of(8, 30) + [[], [0, 0], [10 ** 30, -(10 ** 30)]]:
            for width in (1, 2, 5, 33):
                pack = packed(Row(entries), width)
                self.assertIsInstance(pack, Pack)
                self.assertEqual((pack.width, pack.number), (width, plain.number(entries, width)))

    def test_packs_do_what_rows_do(self):
        for one, other in zip(plain.rows_of(9, 30), plain.rows_of(10, 30)):
            for width in (1, 3, 20):
                first, second = Row(one), Row(other)
                self.assertEqual(packed(first, width) + packed(second, width), packed(first + second, width))
                self.assertEqual(packed(first, width) - packed(second, width), packed(first - second, width))
                self.assertEqual(packed(first, width) * packed(second, width), packed(first * second, width))
                self.assertEqual(packed(first, width).times(-7), packed(first.times(-7), width))
                self.assertEqual(packed(first, width).up(3), packed(first.up(3), width))

    def test_what_spills_is_not_lost(self):
        x = Row([9, 3])
        doubled = packed(x, 4) + packed(x, 4)
        self.assertEqual((doubled.number, doubled.digits(2)), (114, (2, 7)))
        self.assertEqual((doubled - packed(x, 4)).digits(2), (9, 3))
        self.assertEqual(packed(x + x, 5).digits(2), (18, 6))

    def test_operators_return_new_packs(self):
        one, other = Pack(4, 9), Pack(4, 5)
        for found in (one + other, one - other, one * other, one.times(2), one.up(1), one.down(1)):
            self.assertIsInstance(found, Pack)
            self.assertEqual(found.width, 4)
        self.assertEqual((one.number, other.number), (9, 5))

    def test_equal(self):
        self.assertTrue(Pack(4, 9) == Pack(4, 9))
        self.assertFalse(Pack(4, 9) != Pack(4, 9))
        self.assertFalse(Pack(4, 9) == Pack(5, 9))
        self.assertFalse(Pack(4, 9) == Pack(4, -9))
        for other in (9, (4, 9), Row([9]), None):
            self.assertFalse(Pack(4, 9) == other)
            self.assertTrue(Pack(4, 9) != other)

    def test_bad_width(self):
        for width in (0, -1, -(10 ** 5000)):
            self.refused(BadWidth, "width", width, Pack, width, 5)
            self.refused(BadWidth, "width", width, packed, Row([1]), width)
        self.assertEqual(Pack(10 ** 30, 5).number, 5)

    def test_other_width(self):
        one, other = Pack(4, 9), Pack(5, 9)
        for first, second in ((one, other), (other, one)):
            self.refused(OtherWidth, "width", second.width, lambda: first + second)
            self.refused(OtherWidth, "width", second.width, lambda: first - second)
            self.refused(OtherWidth, "width", second.width, lambda: first * second)

    def test_moved(self):
        for number, width, lanes in itertools.product(NUMBERS, (1, 4, 31), (0, 1, 2, 7)):
            self.assertEqual(Pack(width, number).up(lanes).number, number * 2 ** (width * lanes))
            self.assertEqual(Pack(width, number).down(lanes).number, number // 2 ** (width * lanes))
        many = 10 ** 30
        self.assertEqual([Pack(3, -5).down(many).number, Pack(3, 5).down(many).number, Pack(3, 0).up(many).number],
                         [-1, 0, 0])

    def test_negative_lanes_are_refused(self):
        pack = Pack(4, 9)
        for action in (pack.up, pack.down, pack.digits, pack.balanced):
            self.refused(BadLanes, "lanes", -1, action, -1)

    # Points 6 and 7: digits.

    def test_digits(self):
        for number, width, count in itertools.product(NUMBERS, (1, 2, 3, 8, 50, 101, 300), (0, 1, 2, 3, 5, 8, 13)):
            pack = Pack(width, number)
            self.assertEqual(pack.digits(count), plain.digits(number, width, count, 0))
            self.assertEqual(pack.balanced(count), plain.digits(number, width, count, -(2 ** (width - 1))))

    def test_digits_are_tuples(self):
        for found in (Pack(4, 9).digits(0), Pack(4, 9).digits(2), Pack(4, 9).balanced(0), Pack(4, 9).balanced(2)):
            self.assertIsInstance(found, tuple)

    def test_all_small_numbers(self):
        for width, number in itertools.product((1, 2, 3), range(-70, 71)):
            for count in range(9):
                self.assertEqual(Pack(width, number).digits(count), plain.digits(number, width, count, 0))
                wanted = plain.digits(number, width, count, -(2 ** (width - 1)))
                self.assertEqual(Pack(width, number).balanced(count), wanted)

    def test_width_1_balanced(self):
        self.assertEqual(Pack(1, 1).balanced(4), (-1, -1, -1, -1))
        self.assertEqual(Pack(1, -1).balanced(4), (-1, 0, 0, 0))
        self.assertEqual(Pack(1, 0).balanced(2), (0, 0))

    def test_widths_beyond_memory(self):
        wide = 10 ** 30
        self.assertEqual([Pack(wide, 5).digits(3), Pack(wide, 0).digits(1), Pack(wide, -5).digits(0)],
                         [(5, 0, 0), (0,), ()])
        self.assertEqual([Pack(wide, 5).balanced(2), Pack(wide, -5).balanced(2), Pack(wide, -5).balanced(0)],
                         [(5, 0), (-5, 0), ()])
        self.assertEqual([Pack(wide, 5).plain_row().entries, Pack(wide, -5).balanced_row().entries], [(5,), (-5,)])
        self.assertEqual(Pack(10 ** 6, 2 ** (10 ** 6)).balanced(10 ** 5)[:3], (0, 1, 0))

    def test_digits_are_the_row_exactly_if_clean(self):
        clean = 0
        for entries in plain.rows_of(12, 400, lanes=4, most=9):
            row, width, count = Row(entries), 3, 4
            same = packed(row, width).digits(count) == tuple(row.entry(lane) for lane in range(count))
            self.assertEqual(same, all(0 <= row.entry(lane) < 8 for lane in range(count)))
            self.assertEqual(same, all(row.carry(lane, width) == 0 for lane in range(1, count + 1)))
            clean += same
        self.assertIn(clean, range(20, 380))

    def test_plain_row(self):
        for number, width in itertools.product(NUMBERS, (1, 2, 7, 99, 100, 101)):
            if number < 0:
                self.refused(Negative, "number", number, Pack(width, number).plain_row)
            else:
                row = Pack(width, number).plain_row()
                self.assertIsInstance(row, Row)
                self.assertEqual(row.at(width), number)
                self.assertTrue(all(0 <= entry < 2 ** width for entry in row.entries))

    def test_balanced_row(self):
        for number, width in itertools.product(NUMBERS + list(range(-40, 41)), (2, 3, 7, 99, 100, 101)):
            row = Pack(width, number).balanced_row()
            self.assertIsInstance(row, Row)
            self.assertEqual(row.at(width), number)
            self.assertTrue(all(-(2 ** width) <= 2 * entry < 2 ** width for entry in row.entries))

    def test_each_balanced_row_is_found(self):
        for entries in itertools.product(range(-2, 2), repeat=4):
            self.assertEqual(packed(Row(entries), 2).balanced_row(), Row(entries))
        for entries in itertools.product(range(4), repeat=4):
            self.assertEqual(packed(Row(entries), 2).plain_row(), Row(entries))

    def test_no_balanced_row_at_width_1(self):
        for number in (0, 5, -5):
            self.refused(BadWidth, "width", 1, Pack(1, number).balanced_row)
        self.assertEqual(Pack(1, 5).plain_row().entries, (1, 0, 1))

    # Point 8: quotients and rests.

    def test_over_and_rest(self):
        divisors = [Row(entries) for entries in ([1], [-1, 1], [3], [0, 2], [-7, -1, 1], [10 ** 30])]
        for number, width, row in itertools.product(NUMBERS, (3, 4, 20), divisors):
            pack, divisor = Pack(width, number), row.at(width)
            self.assertEqual(pack.over(row), Pack(width, number // divisor))
            self.assertEqual(pack.rest(row), Pack(width, number % divisor))

    def test_rows_are_shown_exactly_if_the_rest_fits(self):
        shown = 0
        divisors = [Row([-1, 1]), Row([2, 1]), Row([0, 0, 1]), Row([-3, 1, 1])]
        for entries, p in itertools.product(plain.rows_of(13, 100, lanes=4, most=9), divisors):
            x, width = Row(entries), 4
            quotient, rest = packed(x, width).over(p), packed(x, width).rest(p)
            same = (quotient, rest) == (packed(x // p, width), packed(x % p, width))
            self.assertEqual(same, 0 <= (x % p).at(width) < p.at(width))
            shown += same
        self.assertIn(shown, range(40, 360))

    def test_rest_by_minus_one_and_one_is_the_sum_of_the_entries(self):
        for entries in plain.rows_of(14, 40):
            self.assertEqual(Row(entries) % Row([-1, 1]), Row([sum(entries)]))
        self.assertEqual(packed(Row([1, 2, 3, 4]), 4).rest(Row([-1, 1])).number, 10)

    def test_not_positive(self):
        pack = Pack(2, 77)
        for row, number in [(Row(), 0), (Row([-4, 1]), 0), (Row([-5, 1]), -1), (Row([-1]), -1)]:
            self.refused(NotPositive, "number", number, pack.over, row)
            self.refused(NotPositive, "number", number, pack.rest, row)
        self.assertEqual((pack.over(Row([-3, 1])).number, pack.rest(Row([-3, 1])).number), (77, 0))

    def test_width_1_divisors(self):
        self.assertEqual((Pack(1, 9).over(Row([-1, 1])).number, Pack(1, 9).rest(Row([-1, 1])).number), (9, 0))
        self.refused(NotPositive, "number", 0, Pack(1, 9).over, Row([-2, 1]))


if __name__ == "__main__":
    unittest.main()
