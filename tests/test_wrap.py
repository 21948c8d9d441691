"""Points 27 to 30: lanes that wrap."""

import operator
import random

import plain
from packedlanes.errors import BadLanes, BadWidth, NoDigit, NoLane, TooGreat, UnlikeLanes
from packedlanes.wrap import WrapLanes

of = WrapLanes.of
SIZES = [(1, 0), (1, 1), (1, 64), (2, 3), (3, 5), (8, 4), (63, 2), (64, 64), (64, 1), (64, 0)]
# Each method with another object, as what it tells of a pair of lanes and the width.
PAIRS = {
    "below": lambda a, b, width: int(a < b), "least": lambda a, b, width: min(a, b),
    "greatest": lambda a, b, width: max(a, b), "distance": lambda a, b, width: max(a, b) - min(a, b),
    "average": lambda a, b, width: (a + b) // 2, "saturated": lambda a, b, width: min(a + b, 2 ** width - 1),
}
SIGNS = [operator.add, operator.sub, operator.mul, operator.and_, operator.or_, operator.xor]


def some_digits(seed, width, many):
    """Digits among which the ends are frequent."""
    source = random.Random(seed)
    greatest = 2 ** width - 1
    return [source.choice([0, 1, greatest, greatest // 2, source.randint(0, greatest)]) for _ in range(many)]


class WrapTest(plain.Case):
    def too_great(self, action, *arguments):
        with self.assertRaises(TooGreat):
            action(*arguments)

    def is_made_of(self, found, width, digits):
        """A WrapLanes of this width and these digits."""
        self.assertIsInstance(found, WrapLanes)
        self.assertEqual((found.width, found.many, found.number), (width, len(digits), plain.number(digits, width)))
        self.assertEqual(found.digits(), tuple(digits))

    def pairs(self):
        for seed, (width, many) in enumerate(SIZES * 3):
            one, other = some_digits(seed, width, many), some_digits(seed + 99, width, many)
            yield width, one, other, of(width, one), of(width, other)

    def test_example(self):
        x, y = of(4, [9, 3]), of(4, [8, 1])
        self.assertEqual([(x + y).digits(), (x - y).digits(), (2 * x).digits(), (~x).digits(), x.average(y).digits()],
                         [(1, 4), (1, 2), (2, 6), (6, 12), (8, 2)])
        self.assertEqual([x.number, x.below(y).digits(), x.ones().digits(), x.total(), x[1], 3 in x],
                         [57, (0, 0), (2, 2), 12, 3, True])

    # Point 27.

    def test_attributes(self):
        for width, many in SIZES:
            for number in {0, 2 ** (width * many) - 1, 2 ** (width * many) // 3}:
                lanes = WrapLanes(width, many, number)
                self.assertEqual((lanes.width, lanes.many, lanes.number), (width, many, number))

    def test_errors_of_widths_then_of_lanes_then_of_the_number(self):
        for width in (0, -1, -10 ** 30):
            for many, number in ((1, 0), (-1, -1), (65, 0), (1, 99)):
                self.refused(BadWidth, "width", width, WrapLanes, width, many, number)
        for width in (65, 10 ** 30):
            for many, number in ((1, 0), (-1, 0), (65, -1)):
                self.too_great(WrapLanes, width, many, number)
        for width in (1, 64):
            for many in (-1, -64, -10 ** 30):
                self.refused(BadLanes, "lanes", many, WrapLanes, width, many, -1)
            for many in (65, 10 ** 30):
                self.too_great(WrapLanes, width, many, -1)

    def test_numbers_that_are_refused(self):
        for width, many in SIZES:
            for number in (-1, -10 ** 30, 2 ** (width * many), 2 ** (width * many) + 10 ** 2000):
                self.refused(NoDigit, "worth", number, WrapLanes, width, many, number)

    def test_of(self):
        for width, many in SIZES:
            digits = some_digits(width, width, many)
            for row in (digits, tuple(digits)):
                self.is_made_of(of(width, row), width, digits)
        self.is_made_of(of(4, [0, 0, 0]), 4, [0, 0, 0])

    def test_errors_of_of(self):
        for row in ([1], [-1], [0] * 65, []):
            self.refused(BadWidth, "width", 0, of, 0, row)
            self.too_great(of, 65, row)
        for width in (1, 64):
            self.too_great(of, width, [0] * 65)
            self.too_great(of, width, [-1] * 65)
        for width in (1, 4, 64):
            for worth in (-1, 2 ** width, -10 ** 30, 10 ** 30):
                self.refused(NoDigit, "worth", worth, of, width, [worth])
                self.refused(NoDigit, "worth", worth, of, width, [0, 1, worth, 2 ** width + 1, -2])
            of(width, [0, 2 ** width - 1])

    def test_lists_are_copied(self):
        row = [1, 2]
        lanes = of(4, row)
        row[0] = 9
        self.assertEqual(lanes.digits(), (1, 2))

    # Point 28.

    def test_digits_and_lengths(self):
        for width, many in SIZES:
            digits = some_digits(many, width, many)
            lanes = WrapLanes(width, many, plain.number(digits, width))
            self.assertEqual((lanes.digits(), len(lanes)), (tuple(digits), many))
            self.assertIsInstance(lanes.digits(), tuple)
            self.assertEqual([lanes[at] for at in range(many)], digits)

    def test_setting_lanes(self):
        for width, many in SIZES:
            lanes, digits = of(width, some_digits(1, width, many)), some_digits(1, width, many)
            for at, worth in enumerate(some_digits(2, width, many)):
                lanes[at] = digits[at] = worth
                self.is_made_of(lanes, width, digits)

    def test_lanes_that_are_not_there(self):
        for width, many in SIZES:
            lanes = of(width, [0] * many)
            for at in (-1, -many, many, many + 1, 10 ** 30):
                if not 0 <= at < many:
                    self.refused(NoLane, "lane", at, lanes.__getitem__, at)
                    for worth in (0, -1, 2 ** width):
                        self.refused(NoLane, "lane", at, lanes.__setitem__, at, worth)
            self.assertEqual(lanes.number, 0)

    def test_setting_what_is_no_digit(self):
        for width, many in SIZES:
            lanes = of(width, [1] * many)
            for at in range(many):
                for worth in (-1, 2 ** width, 10 ** 30):
                    self.refused(NoDigit, "worth", worth, lanes.__setitem__, at, worth)
            self.is_made_of(lanes, width, [1] * many)

    def test_in(self):
        lanes = of(4, [9, 0, 3])
        self.assertEqual([worth in lanes for worth in (9, 0, 3, 1, -1, 16, 57, 10 ** 30)], [True] * 3 + [False] * 5)
        self.assertIs(9 in lanes, True)
        self.assertFalse(0 in of(4, []))
        self.assertTrue(1 not in of(1, [0]))

    def test_equal(self):
        lanes = WrapLanes(4, 2, 57)
        self.assertTrue(lanes == of(4, [9, 3]))
        self.assertFalse(lanes != of(4, [9, 3]))
        for other in (WrapLanes(4, 2, 56), WrapLanes(4, 3, 57), WrapLanes(8, 2, 57), 57, None, (9, 3), "57"):
            self.assertFalse(lanes == other)
            self.assertTrue(lanes != other)
        self.assertFalse(WrapLanes(2, 4, 57) == WrapLanes(4, 2, 57))
        self.assertTrue(of(3, []) == WrapLanes(3, 0, 0))

    # Point 29.

    def test_signs_between_lanes(self):
        for width, one, other, x, y in self.pairs():
            for sign in SIGNS:
                self.is_made_of(sign(x, y), width, [sign(a, b) % 2 ** width for a, b in zip(one, other)])
            self.is_made_of(x, width, one)
            self.is_made_of(y, width, other)

    def test_products_with_integers(self):
        for width, one, _, x, _ in self.pairs():
            for number in (0, 1, -1, 2, 3, -7, 2 ** width, 2 ** width - 1, -(2 ** 70), 10 ** 30):
                wanted = [lane * number % 2 ** width for lane in one]
                self.is_made_of(x * number, width, wanted)
                self.is_made_of(number * x, width, wanted)
            self.is_made_of(x, width, one)

    def test_negative_and_inverse(self):
        for width, one, _, x, _ in self.pairs():
            self.is_made_of(-x, width, [-lane % 2 ** width for lane in one])
            self.is_made_of(~x, width, [2 ** width - 1 - lane for lane in one])
            self.is_made_of(x, width, one)

    def test_shifts(self):
        for width, one, _, x, _ in self.pairs():
            for bits in (0, 1, 2, width - 1, width, width + 1, 64, 10 ** 30):
                kept = min(bits, 99)
                self.is_made_of(x << bits, width, [lane * 2 ** kept % 2 ** width for lane in one])
                self.is_made_of(x >> bits, width, [lane // 2 ** kept for lane in one])
            self.is_made_of(x, width, one)

    def test_operators_return_new_objects(self):
        x, zero = of(4, [9, 3]), of(4, [0, 0])
        for found in (x + zero, x - zero, x * 1, 1 * x, x | zero, x ^ zero, x & x, x << 0, x >> 0, -zero, ~~x,
                      x.least(x), x.greatest(zero), x.chosen(x, zero), x.turned().turned(), x.saturated(zero)):
            self.assertIsNot(found, x)
            before = found.digits()
            x[0] = 1
            self.assertEqual(found.digits(), before)
            x[0] = 9

    def test_unlike_lanes(self):
        x = of(4, [9, 3])
        for other in (of(4, [9]), of(4, [9, 3, 0]), of(5, [9, 3]), of(8, [57]), of(2, [1, 2, 3, 0]), of(4, [])):
            for one, more in ((x, other), (other, x)):
                for sign in SIGNS:
                    with self.assertRaises(UnlikeLanes):
                        sign(one, more)
                for method in PAIRS:
                    with self.assertRaises(UnlikeLanes):
                        getattr(one, method)(more)
            for mask, more in ((other, x), (x, other), (other, other)):
                with self.assertRaises(UnlikeLanes):
                    x.chosen(mask, more)
        self.assertEqual(x.digits(), (9, 3))

    # Point 30.

    def test_methods_between_lanes(self):
        for width, one, other, x, y in self.pairs():
            for method, told in PAIRS.items():
                self.is_made_of(getattr(x, method)(y), width, [told(a, b, width) for a, b in zip(one, other)])
            self.is_made_of(x, width, one)
            self.is_made_of(y, width, other)

    def test_all_pairs_of_lanes(self):
        for width in (1, 2, 3):
            worths = [(a, b) for a in range(2 ** width) for b in range(2 ** width)]
            x, y = of(width, [a for a, _ in worths]), of(width, [b for _, b in worths])
            for method, told in PAIRS.items():
                self.assertEqual(getattr(x, method)(y).digits(), tuple(told(a, b, width) for a, b in worths))
            for sign in SIGNS:
                self.assertEqual(sign(x, y).digits(), tuple(sign(a, b) % 2 ** width for a, b in worths))

    def test_chosen(self):
        for width, one, other, x, y in self.pairs():
            for seed in range(3):
                mask = some_digits(seed + 7, width, len(one))
                wanted = [a if keep else b for a, b, keep in zip(one, other, mask)]
                self.is_made_of(x.chosen(of(width, mask), y), width, wanted)
        self.is_made_of(of(4, [1, 2, 3]).chosen(of(4, [0, 8, 1]), of(4, [4, 5, 6])), 4, [4, 2, 3])

    def test_zeros_and_ones(self):
        for width, one, _, x, _ in self.pairs():
            self.is_made_of(x.zeros(), width, [int(lane == 0) for lane in one])
            self.is_made_of(x.ones(), width, [bin(lane).count("1") % 2 ** width for lane in one])
        for width in (1, 2, 64):
            self.is_made_of(of(width, [0, 2 ** width - 1]).ones(), width, [0, width])

    def test_turned_and_total(self):
        for width, one, _, x, _ in self.pairs():
            self.is_made_of(x.turned(), width, one[::-1])
            self.assertEqual(x.total(), sum(one))
            self.assertIsInstance(x.total(), int)
        self.assertEqual(of(64, [2 ** 64 - 1] * 64).total(), 64 * (2 ** 64 - 1))

    def test_halves(self):
        for width, many in [(1, 0), (1, 1), (1, 2), (3, 5), (4, 4), (32, 64), (32, 1), (31, 63)]:
            digits = some_digits(many, width, many)
            found = of(width, digits).halves()
            self.assertIsInstance(found, tuple)
            self.assertEqual(len(found), 2)
            self.is_made_of(found[0], 2 * width, digits[::2])
            self.is_made_of(found[1], 2 * width, digits[1::2])
        for width in (33, 63, 64):
            for many in (0, 1, 4):
                self.too_great(of(width, [0] * many).halves)


if __name__ == "__main__":
    plain.unittest.main()
