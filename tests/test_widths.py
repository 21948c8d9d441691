"""Point 36: the widths at which a code is clean for all inputs, and the least one."""

from unittest.mock import patch

import plain
from packedlanes.checking import Spill, clean
from packedlanes.codes import Code
from packedlanes.errors import BadWidth, TooGreat
from packedlanes.widths import Least, Widths, least, serves

LONG = 10 ** 600 - 1
FAR = (9, 10, 11, 12, 13, 17, 30, 64, 100, 1000, 3999, 4000)


def let(name, *terms, row=()):
    return ("let", name, list(terms), list(row))


def roots(*ends):
    """A rest row of an input u from 0 to 1 times the product of B - end, which is to be below the power 7 of B."""
    row = [1]
    for end in ends:
        row = plain.product(row, [-end, 1])
    terms = [(factor, "u", lane) for lane, factor in enumerate(row)]
    return Code([("u", [(0, 1)])], [let("v", *terms), ("over", "t", "v", [0] * 7 + [1])])


def of_bits(bits, word="read"):
    """A code without inputs that reads a number of so many bits, which may be more than a code can tell at once."""
    steps = [let("v", row=[2 ** (bits % 1990)])] + [let("v", (2 ** 1990, "v", 0))] * (bits // 1990)
    return Code([], steps + [let("v", (1, "v", 0), row=[-1]), (word, "v", 1)])


class WidthsTest(plain.Case):
    def serves_so(self, code, some, start, always):
        found = serves(code)
        self.assertIsInstance(found, Widths)
        self.assertEqual((found.some, found.start, found.always), (some, start, always))
        self.assertEqual((type(found.some), type(found.start), type(found.always)), (tuple, int, bool))
        return found

    def test_example(self):
        bend = Code([("u", [(0, 1)])], [let("v", (5, "u", 0), (-1, "u", 1)), ("over", "t", "v", [0, 0, 1])])
        self.serves_so(bend, (1, 2), 3, False)
        self.assertEqual(least(bend).width, 1)

    def test_small_codes_width_by_width(self):
        for seed, most in ((21, 3), (22, 9), (23, 40)):
            for code in plain.codes_of(seed, 80, most):
                found = serves(code)
                told = {width: plain.clean(code, width) is None for width in range(1, 9)}
                told.update({width: clean(code, width) is None for width in FAR})
                self.assertEqual({width: found.has(width) for width in told}, told)
                self.has_the_least_start(found)
                first = ([width for width in range(1, 4001) if found.has(width)] or [None])[0]
                self.is_least(code, first)

    def has_the_least_start(self, found):
        self.assertEqual(found.some, tuple(width for width in range(1, found.start) if found.has(width)))
        self.assertTrue(1 <= found.start <= 4000)
        self.assertTrue(found.start == 1 or found.has(found.start - 1) is not found.always)

    def is_least(self, code, width):
        """The least width, with the spills of all below it."""
        found = least(code)
        self.assertIsInstance(found, Least)
        self.assertEqual((found.width, type(found.spills)), (width, tuple))
        self.assertEqual(len(found.spills), 0 if width is None else width - 1)
        for lesser, spill in enumerate(found.spills, start=1):
            if lesser < 40 or lesser > len(found.spills) - 3:
                self.assertIsInstance(spill, Spill)
                self.assertEqual(spill, clean(code, lesser))

    def test_codes_that_are_always_clean(self):
        for code in (Code([], []), Code([("u", [(-9, 9)])], [let("v", (5, "u", 0))]),
                     Code([("u", [(0, 1)])], [("read", "u", 24)]), Code([("u", [(-1, 0)])], [("balanced", "u", 1)])):
            self.serves_so(code, (), 1, True)
            self.is_least(code, 1)

    def test_codes_that_are_never_clean(self):
        for step in (("read", "u", 1), ("over", "t", "u", [0, 1]), ("rest", "t", "u", [-1, 1])):
            code = Code([("u", [(-1, 0)])], [step])
            self.serves_so(code, (), 1, False)
            self.is_least(code, None)
        # The first place is clean below the width 3 only, the second one above.
        bend = [let("v", (5, "u", 0), (-1, "u", 1)), ("over", "t", "v", [0, 0, 1]), let("w", row=[7]), ("read", "w", 1)]
        code = Code([("u", [(0, 1)])], bend)
        self.serves_so(code, (), 1, False)
        self.is_least(code, None)

    def test_one_width_from_which_on_all_are_clean(self):
        for bits in (1, 2, 7, 63, 1000, 1990):
            code = Code([("u", [(0, 2 ** bits - 1)])], [("read", "u", 1)])
            self.serves_so(code, (), bits, True)
            self.is_least(code, bits)
            code = Code([("u", [(-(2 ** bits), 2 ** (bits - 1))])], [("balanced", "u", 2)])
            self.serves_so(code, (), bits + 1, True)
            self.is_least(code, bits + 1)
            code = Code([("u", [(0, 2 ** bits - 1)])], [("rest", "t", "u", [0, 1])])
            self.serves_so(code, (), bits, True)
            code = Code([("u", [(0, 0)])], [("rest", "t", "u", [-(2 ** bits), 1])])
            self.serves_so(code, (), bits + 1, True)
            self.is_least(code, bits + 1)

    def test_widths_with_gaps(self):
        self.serves_so(roots(3, 9), (1,), 4, True)
        self.serves_so(roots(4, 8), (), 1, True)
        self.serves_so(roots(3, 33), (1,), 6, True)
        self.serves_so(roots(1, 5, 100), (2,), 7, True)
        self.serves_so(roots(3, 9, 40, 70), (4, 5), 7, True)
        self.serves_so(roots(1, 300), (), 9, True)
        code = Code([("u", [(0, 1)])], [let("v", (-8, "u", 0), (6, "u", 1), (-1, "u", 2)), ("rest", "t", "v", [0] * 4 + [1])])
        self.serves_so(code, (1, 2), 3, False)
        self.is_least(roots(3, 9), 1)
        self.is_least(roots(3, 9, 40, 70), 4)
        self.is_least(roots(1, 300), 9)

    def test_places_one_behind_the_other(self):
        bend = [let("v", (5, "u", 0), (-1, "u", 1)), ("over", "t", "v", [0, 0, 1])]
        # A place behind one that is clean at few widths takes of these only, however great its own numbers are.
        for worth, some, start in ((1, (1, 2), 3), (3, (2,), 3), (2 ** 100, (), 1)):
            code = Code([("u", [(0, 1)])], bend + [let("w", row=[worth]), ("read", "w", 1)])
            self.serves_so(code, some, start, False)
            self.is_least(code, some[0] if some else None)
        grow = [let("s", row=[2 ** bits - 1]) for bits in (9, 3, 70, 20)]
        code = Code([], [step for let_of_bits in grow for step in (let_of_bits, ("read", "s", 1))])
        self.serves_so(code, (), 70, True)
        self.assertEqual([spill.number for spill in least(code).spills], [1] * 8 + [5] * 61)
        self.serves_so(Code([], [*code.steps, let("s", row=[-1]), ("read", "s", 1)]), (), 1, False)

    def test_two_small_codes(self):
        code = Code([("a", [(0, 3), (1, 3)]), ("b", [(0, 2)])],
                    [let("v", (2, "a", 0), (1, "b", 1), row=[1, 2]), ("read", "v", 2), ("balanced", "v", 2),
                     ("read", "v", 3), ("balanced", "v", 4), ("read", "b", 2)])
        self.serves_so(code, (), 5, True)
        found = least(code)
        self.assertEqual(found.width, 5)
        self.assertEqual([(spill.number, spill.lane, spill.side, spill.given) for spill in found.spills],
                         [(1, 0, "above", {"a": (3, 1), "b": (0,)})] * 2
                         + [(number, 1, "above", {"a": (0, 3), "b": (2,)}) for number in (1, 2)])
        code = Code([("a", [(-3, 0), (1, 3)]), ("b", [(0, 2)])],
                    [let("v", (1, "a", 0), (1, "b", 1), row=[0, 1]), ("read", "v", 2), ("over", "t", "v", (0, 0, 1)),
                     let("w", (1, "t", 0)), ("balanced", "w", 4),
                     ("rounds", 3, [let("w", (1, "w", 0), (1, "a", 0))]), ("read", "w", 2)])
        self.serves_so(code, (), 1, False)
        self.is_least(code, None)

    def test_small_codes_are_not_looked_at_width_by_width(self):
        codes = plain.codes_of(24, 300)
        told = [(vars(serves(code)), least(code).width, least(code).spills) for code in codes]
        # Nothing could go over so many widths.
        with patch("packedlanes.widths.MOST_WIDTH", 10 ** 30):
            for code, answers in zip(codes, told):
                self.assertEqual((vars(serves(code)), least(code).width, least(code).spills), answers)

    def test_has(self):
        for found in (serves(roots(3, 9)), serves(Code([], []))):
            for width in (0, -1, -10 ** 30):
                self.refused(BadWidth, "width", width, found.has, width)
            for width in (4001, 10 ** 30):
                with self.assertRaises(TooGreat):
                    found.has(width)
        found = serves(roots(3, 9))
        self.assertEqual([found.has(width) for width in (1, 2, 3, 4, 5, 4000)], [True, False, False, True, True, True])
        self.assertEqual((found.has(1) is True, found.has(2) is False), (True, True))
        bend = serves(Code([("u", [(0, 1)])],
                           [let("v", (5, "u", 0), (-1, "u", 1)), ("over", "t", "v", [0, 0, 1])]))
        self.assertEqual([bend.has(width) for width in (1, 2, 3, 4, 4000)], [True, True, False, False, False])

    def test_the_last_widths(self):
        for word, more in (("read", 0), ("balanced", 1)):
            for bits in (3998, 3999, 4000):
                code = of_bits(bits - more, word)
                self.serves_so(code, (), bits, True)
                self.assertEqual(least(code).width, bits)
                self.assertEqual(len(least(code).spills), bits - 1)
            code = of_bits(4001 - more, word)
            self.serves_so(code, (), 1, False)
            self.assertEqual((least(code).width, least(code).spills), (None, ()))
            # Only above 4000 is it clean.
            self.assertFalse(serves(of_bits(4500, word)).has(4000))

    def test_start_at_the_last_width_where_it_is_not_clean(self):
        # 2 ** 3999 - B is below 0 at the width 4000 only.
        terms = [(-1, "u", 1)]
        steps = [let("w", (2 ** 1990, "u", 0)), let("w", (2 ** 1990, "w", 0)), let("w", (2 ** 19, "w", 0)),
                 let("v", (1, "w", 0), *terms), ("over", "t", "v", [0] * 11 + [1])]
        code = Code([("u", [(0, 1)])], steps)
        found = serves(code)
        self.assertEqual((found.start, found.always, found.some[0], found.some[-1]), (4000, False, 364, 3999))
        self.assertEqual(len(found.some), 3999 - 364 + 1)
        self.is_least(code, 364)

    def test_spills_of_lesser_widths(self):
        code = Code([("u", [(0, 3), (-4, 1)])], [let("v", (1, "u", 0), row=[0, 4]), ("read", "v", 1), ("read", "v", 2),
                                                ("balanced", "v", 2)])
        found = least(code)
        self.assertEqual((found.width, [(spill.number, spill.lane, spill.side) for spill in found.spills]),
                         (4, [(1, 0, "above"), (2, 1, "above"), (3, 1, "above")]))
        self.assertEqual([spill.given for spill in found.spills], [{"u": (3, -4)}, {"u": (0, 1)}, {"u": (0, 1)}])

    def test_what_is_told_is_new(self):
        code = Code([("u", [(0, 9)])], [("read", "u", 1)])
        spills = least(code).spills
        spills[0].given.clear()
        self.assertEqual([spill.given for spill in spills[1:]], [{"u": (9,)}] * 2)
        self.assertEqual(least(code).spills[0].given, {"u": (9,)})

    def test_great_codes(self):
        inputs = [(name, [(0, LONG)] * 8) for name in "abcdef"]
        steps = [let("v", *[(LONG, name, 3 * at) for at, name in enumerate("abcdef")], row=[LONG] * 24)]
        tens = [("rest", "s", "v", [-1] + [0] * 10 + [1]), ("rest", "t", "s", [-1] + [0] * 9 + [1]), ("read", "t", 10)]
        code = Code(inputs, steps + tens)
        found = serves(code)
        self.assertTrue(found.always)
        self.has_the_least_start(found)
        for width in (found.start - 1, found.start, 4000):
            self.assertEqual(clean(code, width) is None, found.has(width))
        self.is_least(code, found.start)


if __name__ == "__main__":
    plain.unittest.main()
