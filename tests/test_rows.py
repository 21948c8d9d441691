"""Points 2 to 6: rows, their numbers, quotients and carries."""

import itertools
import unittest

import plain
from packedlanes.errors import BadLanes, BadWidth, NotMonic
from packedlanes.rows import Row, same_widths

SAMPLES = plain.rows_of(3, 40) + [[], [0], [0, 0, 5], [7, 0, 0], [10 ** 29, -(10 ** 30) + 1, 1], [-(10 ** 30)]]


class RowsTest(plain.Case):
    # Points 2 and 3: what a row is.

    def test_example(self):
        x = Row([3, 0, -2, 0])
        self.assertEqual([x.entries, x.size, x.entry(9), x.at(4), (x * Row([1, 1])).entries],
                         [(3, 0, -2), 3, 0, -509, (3, 3, -2, -2)])
        self.assertEqual([(x // Row([-1, 1])).entries, (x % Row([-1, 1])).entries, x.carry(3, 4), x.carry(1, 1)],
                         [(-2, -2), (1,), -1, 1])
        self.assertEqual([same_widths(Row([8, 1]), Row([0, 2])), same_widths(Row([4, 0, 1]), Row([0, 4])),
                          same_widths(x, x)], [(3,), (1,), None])

    def test_zeros_at_the_end_are_left_out(self):
        for told, kept in [((), ()), ([0], ()), ([0, 0, 0], ()), ([0, 1, 0], (0, 1)), ((5, 0, -1), (5, 0, -1))]:
            row = Row(told)
            self.assertEqual((row.entries, row.size), (kept, len(kept)))
            self.assertIsInstance(row.entries, tuple)
        self.assertEqual(Row().entries, ())
        self.assertEqual(Row(entries=[1]).entries, (1,))

    def test_lists_are_copied(self):
        told = [1, 2, 3]
        row = Row(told)
        told[0] = 9
        told.append(4)
        told.clear()
        self.assertEqual((row.entries, row.size, row.at(4)), ((1, 2, 3), 3, 801))

    def test_entry(self):
        row = Row([4, 0, -6, 0])
        self.assertEqual([row.entry(lane) for lane in (0, 1, 2, 3, 4, 10 ** 30)], [4, 0, -6, 0, 0, 0])
        self.assertEqual(Row().entry(0), 0)
        self.refused(BadLanes, "lanes", -1, row.entry, -1)
        self.refused(BadLanes, "lanes", -3, Row().entry, -3)

    def test_equal(self):
        self.assertTrue(Row([1, 2]) == Row((1, 2, 0)))
        self.assertFalse(Row([1, 2]) != Row((1, 2, 0)))
        self.assertTrue(Row() == Row([0, 0]))
        self.assertFalse(Row([1, 2]) == Row([2, 1]))
        self.assertFalse(Row([0, 1]) == Row([1]))
        for other in ((1, 2), [1, 2], 33, None, "row"):
            self.assertFalse(Row([1, 2]) == other)
            self.assertTrue(Row([1, 2]) != other)

    def test_sums_differences_products(self):
        for one, other in itertools.product(SAMPLES, repeat=2):
            self.assertEqual((Row(one) + Row(other)).entries, plain.total(one, other))
            self.assertEqual((Row(one) - Row(other)).entries, plain.total(one, other, -1))
            self.assertEqual((Row(one) * Row(other)).entries, plain.product(one, other))

    def test_operators_return_new_rows_and_change_nothing(self):
        x, p = Row([5, -7, 2]), Row([3, 1])
        for found in (x + p, x - p, x * p, x // p, x % p, x.times(2), x.power(2), x.up(1), x.down(1), x.low(1)):
            self.assertIsInstance(found, Row)
        self.assertEqual((x.entries, p.entries), ((5, -7, 2), (3, 1)))

    def test_sums_lose_zeros_at_the_end(self):
        self.assertEqual((Row([1, 2, 3]) + Row([0, -2, -3])).entries, (1,))
        self.assertEqual((Row([1, 2, 3]) - Row([1, 2, 3])).entries, ())
        self.assertEqual((Row([1, 2, 3]) * Row()).entries, ())

    def test_times(self):
        for number in (0, 1, -1, 3, -(10 ** 30)):
            for entries in SAMPLES:
                self.assertEqual(Row(entries).times(number).entries, plain.cut([number * entry for entry in entries]))

    def test_power(self):
        for entries in SAMPLES[:12] + [[], [0, 1], [-1]]:
            wanted = (1,)
            for exponent in range(7):
                self.assertEqual(Row(entries).power(exponent).entries, wanted)
                wanted = plain.product(wanted, entries)
        self.assertEqual(Row().power(0).entries, (1,))
        self.assertEqual(Row([-1]).power(10 ** 30 + 1).entries, (-1,))
        self.assertEqual(Row().power(10 ** 30).entries, ())
        self.refused(BadLanes, "lanes", -2, Row([1]).power, -2)

    def test_moved_and_cut(self):
        for entries in SAMPLES:
            row = Row(entries)
            for lanes in range(9):
                self.assertEqual(row.up(lanes).entries, plain.cut([0] * lanes + entries))
                self.assertEqual(row.down(lanes).entries, plain.cut(entries[lanes:]))
                self.assertEqual(row.low(lanes).entries, plain.cut(entries[:lanes]))
                self.assertEqual(row.down(lanes).up(lanes) + row.low(lanes), row)

    def test_moved_and_cut_by_very_many_lanes(self):
        row = Row([1, 2])
        many = 10 ** 30
        self.assertEqual([row.down(many).entries, row.low(many).entries, Row().up(many).entries], [(), (1, 2), ()])

    def test_negative_lanes_are_refused(self):
        for action in (Row([1, 2]).up, Row([1, 2]).down, Row([1, 2]).low, Row().up):
            self.refused(BadLanes, "lanes", -1, action, -1)

    # Point 4: the number of a row at a width.

    def test_number(self):
        for entries in SAMPLES:
            for width in (1, 2, 3, 7, 64, 100):
                self.assertEqual(Row(entries).at(width), plain.number(entries, width))
        self.assertEqual([Row().at(1), Row([5]).at(10 ** 30), Row([1, 1]).at(1)], [0, 5, 3])

    def test_number_of_results(self):
        for one, other in zip(SAMPLES, SAMPLES[1:]):
            for width in (1, 4, 9):
                first, second = Row(one), Row(other)
                self.assertEqual((first + second).at(width), first.at(width) + second.at(width))
                self.assertEqual((first - second).at(width), first.at(width) - second.at(width))
                self.assertEqual((first * second).at(width), first.at(width) * second.at(width))
                self.assertEqual(first.times(-3).at(width), -3 * first.at(width))
                self.assertEqual(first.up(2).at(width), first.at(width) << 2 * width)

    def test_bad_width(self):
        for width in (0, -1, -(10 ** 5000)):
            self.refused(BadWidth, "width", width, Row([1]).at, width)
            self.refused(BadWidth, "width", width, Row().at, width)

    def test_same_widths_as_found_one_by_one(self):
        seen = set()
        for one, other in itertools.product(plain.rows_of(4, 60, lanes=4, most=9), repeat=2):
            wanted = None if plain.cut(one) == plain.cut(other) else plain.shared_widths(one, other)
            self.assertEqual(same_widths(Row(one), Row(other)), wanted)
            seen.add(wanted)
        self.assertGreater(len(seen), 4)

    def test_same_widths_of_multiples(self):
        base = Row([3, -1, 10 ** 30 + 1])
        for widths in [(1,), (5,), (1, 2), (2, 3, 7), (1, 2, 3, 4, 5), (40, 3000), (1, 10 ** 4)]:
            spread = Row([1])
            for width in widths:
                spread = spread * Row([-(2 ** width), 1])
            for front in (0, 1, 5):
                difference = (spread * Row([7, 2, 1])).up(front)
                self.assertEqual(same_widths(base + difference, base), widths)
                self.assertEqual(same_widths(base, base + difference), widths)

    def test_same_widths_of_a_root_that_counts_twice(self):
        spread = Row([-8, 1])
        self.assertEqual(same_widths(spread * spread * Row([-2, 1]), Row()), (1, 3))

    def test_same_widths_of_terms_with_like_powers_of_2(self):
        self.assertEqual(same_widths(Row([512, 64, -8, -1]), Row()), (3,))
        self.assertEqual(same_widths(Row([512, 64, 8, 1]), Row()), ())

    def test_same_widths_edges(self):
        self.assertEqual(same_widths(Row([1]), Row()), ())
        self.assertEqual(same_widths(Row([0, 0, 8]), Row()), ())
        self.assertEqual(same_widths(Row([1, -1]), Row()), ())
        self.assertEqual(same_widths(Row([-4, 0, 1]), Row([0, 0, 0])), (1,))
        self.assertEqual(same_widths(Row([2]), Row([0, 1])), (1,))
        self.assertIsNone(same_widths(Row(), Row([0])))
        self.assertEqual(same_widths(Row([2 ** 100000]), Row([0, 0, 1])), (50000,))
        self.assertEqual(same_widths(Row([2 ** 100000]), Row([0, 0, 0, 1])), ())
        self.assertEqual(same_widths(Row([2 ** 1000000, -1] + [1] * 3000), Row()), ())

    def test_widths_divide_the_first_entry_of_the_difference(self):
        for one, other in itertools.product(plain.rows_of(5, 30, lanes=3, most=8), repeat=2):
            difference = (Row(one) - Row(other)).entries
            if difference:
                first = [entry for entry in difference if entry][0]
                for width in same_widths(Row(one), Row(other)):
                    self.assertEqual(first % 2 ** width, 0)
                    self.assertEqual((Row(difference) % Row([-(2 ** width), 1])).size, 0)

    # Point 5: quotient and rest rows.

    def test_divided(self):
        for entries, lower in itertools.product(SAMPLES, SAMPLES):
            x, p = Row(entries), Row(list(lower) + [1])
            quotient, rest = x // p, x % p
            self.assertEqual(p * quotient + rest, x)
            self.assertLess(rest.size, p.size)
            self.assertEqual(quotient.size, max(0, x.size - p.size + 1))

    def test_quotient_and_rest_are_the_only_ones(self):
        p = Row([4, -3, 0, 1])
        for quotient, rest in [([], [1, 2, 3]), ([5, 0, -7], []), ([10 ** 30, -2], [0, 0, 9]), ([1], [0])]:
            x = p * Row(quotient) + Row(rest)
            self.assertEqual((x // p, x % p), (Row(quotient), Row(rest)))

    def test_divided_by_one_and_by_longer_rows(self):
        x = Row([4, 5, 6])
        self.assertEqual(((x // Row([1])).entries, (x % Row([1])).entries), ((4, 5, 6), ()))
        self.assertEqual(((x // Row([9, 9, 9, 1])).entries, (x % Row([9, 9, 9, 1])).entries), ((), (4, 5, 6)))
        self.assertEqual(((Row() // Row([2, 1])).entries, (Row() % Row([2, 1])).entries), ((), ()))

    def test_not_monic(self):
        for p in (Row(), Row([0]), Row([1, 2]), Row([1, -1]), Row([2])):
            with self.assertRaises(NotMonic) as caught:
                Row([1, 2, 3]) // p
            self.assertIs(caught.exception.row, p)
            with self.assertRaises(NotMonic) as caught:
                Row() % p
            self.assertIs(caught.exception.row, p)

    # Point 6: carries.

    def test_carry(self):
        for entries in SAMPLES:
            for width in (1, 2, 5, 40):
                for lane in range(10):
                    self.assertEqual(Row(entries).carry(lane, width), plain.carry(entries, lane, width))

    def test_carry_into_the_next_lane(self):
        for entries in SAMPLES:
            row = Row(entries)
            for lane in range(8):
                self.assertEqual(row.carry(lane + 1, 3), (row.entry(lane) + row.carry(lane, 3)) // 8)

    def test_carry_at_the_edges(self):
        row = Row([1, -1])
        self.assertEqual([row.carry(0, 1), Row().carry(0, 1), Row().carry(9, 1)], [0, 0, 0])
        self.assertEqual([row.carry(10 ** 30, 5), Row([1, 1]).carry(10 ** 30, 5)], [-1, 0])
        self.assertEqual([row.carry(2, 10 ** 30), row.carry(1, 10 ** 30)], [-1, 0])
        self.assertEqual([Row([2 ** 70]).carry(3, 10), Row([2 ** 70]).carry(8, 10)], [2 ** 40, 0])

    def test_carry_of_a_sum(self):
        for count in (2, 3, 5):
            for start in range(0, 40, count):
                rows = [Row(entries) for entries in SAMPLES[start:start + count]]
                for width, lane in itertools.product((1, 3, 6), range(7)):
                    more = sum(rows, Row([])).carry(lane, width) - sum(row.carry(lane, width) for row in rows)
                    self.assertIn(more, range(len(rows)))

    def test_carry_refuses_lanes_first(self):
        self.refused(BadLanes, "lanes", -1, Row([1]).carry, -1, 0)
        self.refused(BadWidth, "width", 0, Row([1]).carry, 0, 0)
        self.refused(BadWidth, "width", -4, Row().carry, 5, -4)


if __name__ == "__main__":
    unittest.main()
