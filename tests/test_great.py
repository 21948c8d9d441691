"""Points 2 to 8 with thousands of lanes and thousands of bits in a lane."""

import random
import unittest

import plain
from packedlanes.packs import Pack, packed
from packedlanes.rows import Row, same_widths

PRIME = 2 ** 127 - 1
AT = 3 ** 70


def long_row(seed, lanes, bits):
    source = random.Random(seed)
    return [source.choice((1, -1)) * source.getrandbits(bits) for _ in range(lanes)]


def worth(entries):
    """The worth of a row as a polynomial at one place, modulo a prime."""
    found = 0
    for entry in reversed(entries):
        found = (found * AT + entry) % PRIME
    return found


class GreatTest(unittest.TestCase):
    def test_products_of_middle_rows_are_exact(self):
        for lanes, other_lanes, bits in [(100, 100, 8), (150, 30, 60), (30, 200, 3), (60, 60, 500), (70, 1, 90)]:
            one, other = long_row(lanes, lanes, bits), long_row(bits, other_lanes, bits)
            self.assertEqual((Row(one) * Row(other)).entries, plain.product(one, other))

    def test_products_of_the_greatest_entries(self):
        for lanes, worth_of_all in [(127, 2 ** 30 - 1), (128, -(2 ** 30)), (300, 2 ** 64 - 1), (255, 1)]:
            found = (Row([worth_of_all] * lanes) * Row([worth_of_all] * lanes)).entries
            self.assertEqual(found[:3], tuple(worth_of_all ** 2 * count for count in (1, 2, 3)))
            self.assertEqual((max(found), len(found)), (lanes * worth_of_all ** 2, 2 * lanes - 1))
            found = (Row([worth_of_all] * lanes) * Row([-worth_of_all] * lanes)).entries
            self.assertEqual(min(found), -lanes * worth_of_all ** 2)

    def test_products_of_long_rows(self):
        for lanes, other_lanes, bits in [(4000, 3000, 20), (2000, 1500, 1000), (9000, 2, 4000)]:
            one, other = long_row(1, lanes, bits), long_row(2, other_lanes, bits)
            found = (Row(one) * Row(other)).entries
            self.assertEqual(worth(found), worth(one) * worth(other) % PRIME)
            self.assertEqual(found[0], one[0] * other[0])
            self.assertEqual(found[-1], one[-1] * other[-1])

    def test_products_with_one_long_entry_or_few_entries(self):
        one = long_row(3, 2000, 10)
        one[700] = 3 ** 200000
        self.assertEqual(worth((Row(one) * Row(one[:500])).entries), worth(one) * worth(one[:500]) % PRIME)
        far = Row([5]).up(200000)
        self.assertEqual(far * far, Row([25]).up(400000))

    def test_sums_and_shifts(self):
        one, other = long_row(4, 5000, 3000), long_row(5, 4000, 3000)
        self.assertEqual((Row(one) + Row(other)).entries, plain.total(one, other))
        self.assertEqual((Row(one) - Row(other)).entries, plain.total(one, other, -1))
        self.assertEqual(Row(one).up(3000).down(2999).low(4).entries, (0, *one[:3]))

    def test_power(self):
        found = Row([1, 1]).power(1500)
        self.assertEqual((found.size, sum(found.entries), found.entry(2)), (1501, 2 ** 1500, 1500 * 1499 // 2))
        self.assertEqual(Row([0, 1]).power(100000), Row([1]).up(100000))

    def test_quotients_of_long_rows(self):
        for lanes, other_lanes, bits in [(60, 50, 20), (300, 90, 20), (90, 300, 500), (3000, 2000, 8), (700, 700, 900)]:
            quotient, rest = Row(long_row(6, lanes, bits)), Row(long_row(7, other_lanes, bits))
            p = Row(long_row(8, other_lanes, bits) + [1])
            x = quotient * p + rest
            self.assertEqual(x // p, quotient)
            self.assertEqual(x % p, rest)

    def test_quotients_whose_entries_grow(self):
        x, p = Row(long_row(9, 400, 4)), Row(long_row(10, 150, 3) + [1])
        quotient, rest = x // p, x % p
        self.assertEqual(p * quotient + rest, x)
        self.assertLess(rest.size, p.size)

    def test_quotients_by_short_and_by_sparse_rows(self):
        entries = long_row(11, 6000, 1000)
        self.assertEqual((Row(entries) % Row([-1, 1])).entries, (sum(entries),))
        p = Row([-1] + [0] * 2999 + [1])
        self.assertEqual((Row(entries) % p).entries, plain.total(entries[:3000], entries[3000:]))

    def test_digits_of_long_packs(self):
        source = random.Random(12)
        for width, lanes in [(3000, 3000), (1, 20000), (7, 10000)]:
            digits = tuple(source.getrandbits(width) for _ in range(lanes)) + (1,)
            pack = packed(Row(digits), width)
            self.assertEqual(pack.digits(lanes + 1), digits)
            self.assertEqual(pack.digits(5), digits[:5])
            self.assertEqual(pack.plain_row().entries, digits)
            half = 2 ** (width - 1)
            balanced = tuple(digit - half for digit in digits[:lanes]) + (-1,)
            pack = packed(Row(balanced), width)
            self.assertEqual(pack.balanced(lanes + 1), balanced)
            if width > 1:
                self.assertEqual(pack.balanced_row().entries, balanced)

    def test_quotients_of_long_packs(self):
        source = random.Random(15)
        for size, other_size in [(30000, 15000), (100000, 100001), (90000, 200000), (600000, 100000), (100000, 20)]:
            divisor = source.getrandbits(other_size) | 1
            for quotient in (source.getrandbits(size), -source.getrandbits(size), 2 ** size, -(2 ** size)):
                for rest in (0, 1, divisor // 3, divisor - 1):
                    pack = Pack(500, quotient * divisor + rest)
                    row = Pack(500, divisor).balanced_row()
                    self.assertEqual((pack.over(row).number, pack.rest(row).number), (quotient, rest))

    def test_quotients_of_very_long_packs(self):
        entries, p = long_row(13, 2000, 1000), Row(long_row(14, 1000, 1000) + [1])
        pack = packed(Row(entries), 2000)
        quotient, rest = pack.over(p), pack.rest(p)
        self.assertEqual(quotient.number * p.at(2000) + rest.number, pack.number)
        self.assertTrue(0 <= rest.number < p.at(2000))

    def test_carries(self):
        entries = long_row(16, 3000, 3000)
        number = plain.number(entries[:200], 70)
        self.assertEqual(Row(entries).carry(200, 70), number // 2 ** (70 * 200))
        whole = Row(entries).at(2000)
        self.assertEqual(Row(entries).carry(3000, 2000), whole >> 2000 * 3000)

    def test_same_widths(self):
        row = Row(long_row(17, 2000, 2000))
        spread = Row([-(2 ** 900), 1]) * Row([-(2 ** 1000), 1]) * Row([-2, 1])
        self.assertEqual(same_widths(row + spread * row, row), (1, 900, 1000))
        self.assertEqual(same_widths(Row([2 ** 3000] * 3000), Row()), ())


if __name__ == "__main__":
    unittest.main()
