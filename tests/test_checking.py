"""Points 34 and 35: codes that are clean for all inputs, and what spills in others."""

import plain
from packedlanes.checking import Spill, clean
from packedlanes.codes import Code
from packedlanes.errors import BadWidth, TooGreat
from packedlanes.places import given_of
from packedlanes.runs import spilled

LONG = 10 ** 600 - 1


def let(name, *terms, row=()):
    return ("let", name, list(terms), list(row))


def told(spill):
    return None if spill is None else (spill.number, spill.lane, spill.side, spill.given)


def wide(step, *ranges, row=()):
    """A code that sets v to its input, whose lanes have these ranges, and a row, and then does a step."""
    return Code([("u", ranges)], [let("v", (1, "u", 0), row=row), step])


class CheckingTest(plain.Case):
    def spills(self, code, width, number, lane, side, *lanes):
        """The code spills so, with these lanes of the input u."""
        self.assertEqual(told(clean(code, width)), (number, lane, side, {"u": lanes}))

    def test_example(self):
        bend = Code([("u", [(0, 1)])], [let("v", (5, "u", 0), (-1, "u", 1)), ("over", "t", "v", [0, 0, 1])])
        self.assertEqual([clean(bend, 2), clean(bend, 3).number, clean(bend, 3).side, clean(bend, 3).given],
                         [None, 1, "below", {"u": (1,)}])
        self.assertIsNone(clean(bend, 3).lane)

    def test_small_codes_against_all_inputs(self):
        for seed, most in ((11, 3), (12, 9), (13, 25)):
            for code in plain.codes_of(seed, 120, most):
                for width in (1, 2, 3, 4, 6, 8):
                    self.assertEqual(told(clean(code, width)), plain.clean(code, width))

    def test_what_spills_is_spilled_by_the_input_that_is_told(self):
        for code in plain.codes_of(14, 150, 6):
            for width in (1, 2, 3, 5, 40):
                spill = clean(code, width)
                if spill is not None:
                    self.assertEqual(spilled(code, width, spill.given), spill.number)

    def test_widths(self):
        for code in (Code([], []), wide(("read", "v", 1), (0, 9))):
            for width in (0, -1, -10 ** 30):
                self.refused(BadWidth, "width", width, clean, code, width)
            for width in (4001, 10 ** 30):
                with self.assertRaises(TooGreat):
                    clean(code, width)
            self.assertIsNone(clean(code, 4000))

    # Point 34: the place, the lane and the side.

    def test_without_places_and_without_inputs(self):
        self.assertIsNone(clean(Code([], []), 1))
        rounds = ("rounds", 9, [let("v", (1, "v", 0), (1, "u", 0))])
        self.assertIsNone(clean(wide(rounds, (-5, 5)), 1))
        for row, width, wanted in [([3], 2, None), ([4], 2, (1, 0, "above", {})), ([0, -1], 9, (1, 1, "below", {}))]:
            self.assertEqual(told(clean(Code([], [let("v", row=row), ("read", "v", 2)]), width)), wanted)
        code = Code([("e", []), ("d", [])], [let("v", (3, "e", 1), row=[8]), ("read", "v", 1)])
        self.assertEqual((clean(code, 4), told(clean(code, 3))), (None, (1, 0, "above", {"e": (), "d": ()})))

    def test_ends_of_digits(self):
        for width in (1, 2, 5, 4000 // 3):
            top, half = 2 ** width - 1, 2 ** (width - 1)
            if width < 900:
                self.assertIsNone(clean(wide(("read", "v", 1), (0, top)), width))
                self.spills(wide(("read", "v", 1), (0, top + 1)), width, 1, 0, "above", top + 1)
                self.spills(wide(("read", "v", 1), (-1, 0)), width, 1, 0, "below", -1)
                self.assertIsNone(clean(wide(("balanced", "v", 1), (-half, half - 1)), width))
                self.spills(wide(("balanced", "v", 1), (-half, half)), width, 1, 0, "above", half)
                self.spills(wide(("balanced", "v", 1), (-half - 1, half - 1)), width, 1, 0, "below", -half - 1)

    def test_the_greatest_width(self):
        grow = [let("v", row=[2 ** 1990]), let("v", (2 ** 1990, "v", 0)), let("v", (2 ** 19, "v", 0))]
        for less, more in (([], None), ([let("v", (2, "v", 0))], "above")):
            spill = clean(Code([], grow + less + [("read", "v", 1)]), 4000)
            self.assertEqual(spill and spill.side, more)
            spill = clean(Code([], grow + less + [let("v", (-1, "v", 0)), ("balanced", "v", 1)]), 4000)
            self.assertEqual(spill and spill.side, more and "below")

    def test_in_each_lane_below_is_looked_at_first(self):
        self.spills(wide(("read", "v", 3), (-1, 99), (0, 99), (-1, 0)), 3, 1, 0, "below", -1, 0, -1)
        self.spills(wide(("read", "v", 3), (0, 99), (-1, 99), (-1, 0)), 3, 1, 0, "above", 99, -1, -1)
        self.spills(wide(("read", "v", 3), (0, 7), (-5, 99), (-1, 0)), 3, 1, 1, "below", 0, -5, -1)
        self.spills(wide(("balanced", "v", 2), (-9, 9), (-9, 9)), 3, 1, 0, "below", -9, -9)
        self.spills(wide(("balanced", "v", 2), (-4, 3), (-4, 4)), 3, 1, 1, "above", -4, 4)
        self.spills(wide(("over", "t", "v", [0, 1]), (-1, 99)), 3, 1, None, "below", -1)

    def test_lanes_behind_those_that_are_read_do_not_matter(self):
        code = wide(("read", "v", 1), (0, 7), (-9, 99))
        self.assertIsNone(clean(code, 3))
        self.spills(wide(("read", "v", 2), (0, 7), (-9, 99)), 3, 1, 1, "below", 0, -9)
        self.assertIsNone(clean(wide(("read", "v", 9), (0, 7)), 3))

    def test_the_first_place_that_spills(self):
        steps = [let("v", (1, "u", 0)), ("read", "v", 1), ("rest", "s", "v", [-1, 1]), ("balanced", "s", 1)]
        code = Code([("u", [(0, 3), (0, 3)])], steps)
        self.spills(code, 1, 1, 0, "above", 3, 0)
        self.spills(code, 2, 2, None, "above", 3, 3)
        self.spills(code, 3, 3, 0, "above", 3, 3)
        self.assertIsNone(clean(code, 4))

    def test_a_place_that_spills_for_another_input_than_the_first_one(self):
        steps = [let("v", (1, "u", 0)), ("read", "v", 1), let("w", (1, "u", 0), row=[-3]), ("read", "w", 1)]
        self.spills(Code([("u", [(3, 9)])], steps), 3, 1, 0, "above", 9)
        self.assertIsNone(clean(Code([("u", [(3, 7)])], steps), 3))
        self.spills(Code([("u", [(2, 7)])], steps), 3, 3, 0, "below", 2)

    def test_numbers_of_places_count_the_lets_of_rounds(self):
        rounds = ("rounds", 5, [let("v", (1, "v", 0), (1, "u", 0)), let("w", (1, "w", 0), row=[1])])
        code = Code([("u", [(0, 2)])], [let("v"), let("w"), rounds, ("read", "w", 1), ("read", "v", 1)])
        self.spills(code, 2, 5, 0, "above", 0)
        self.spills(code, 3, 6, 0, "above", 2)
        self.assertIsNone(clean(code, 4))

    # Over and rest.

    def test_ends_of_the_number_of_the_rest_row(self):
        for word in ("over", "rest"):
            for width in (1, 2, 9):
                by = 2 ** width
                self.assertIsNone(clean(wide((word, "t", "v", [0, 1]), (0, by - 1), (-LONG, LONG)), width))
                self.spills(wide((word, "t", "v", [0, 1]), (0, by), (7, 9)), width, 1, None, "above", by, 7)
                self.spills(wide((word, "t", "v", [0, 1]), (-1, by), (7, 9)), width, 1, None, "below", -1, 7)
                self.assertIsNone(clean(wide((word, "t", "v", [1, 1]), (0, by)), width))
                self.spills(wide((word, "t", "v", [1, 1]), (0, by + 1)), width, 1, None, "above", by + 1)
                self.assertIsNone(clean(wide((word, "t", "v", [-1, 0, 1]), (0, by - 2), (0, by - 1)), width))
                self.spills(wide((word, "t", "v", [-1, 0, 1]), (0, by - 1), (0, by - 1)), width, 1, None, "above",
                            by - 1, by - 1)

    def test_entries_beyond_digits_whose_number_is_a_rest(self):
        # The lanes are 5 and -1, whose number is 1 at the width 2; with them at their own ends it would not be clean.
        code = Code([("u", [(0, 1)])], [let("v", (5, "u", 0), (-1, "u", 1)), ("rest", "t", "v", [0, 0, 1])])
        self.assertEqual([clean(code, 1), clean(code, 2)], [None, None])
        self.spills(code, 3, 1, None, "below", 1)
        code = Code([("u", [(0, 1)])], [let("v", (-3, "u", 0), (1, "u", 1)), ("rest", "t", "v", [0, 0, 1])])
        self.spills(code, 1, 1, None, "below", 1)
        self.assertIsNone(clean(code, 2))

    def test_divisors(self):
        for word in ("over", "rest"):
            for divisor, width in [([-2, 1], 1), ([-5, 1], 2), ([-9, 0, 1], 1), ([0, -8, 1], 3)]:
                code = wide((word, "t", "v", divisor), (3, 9), (-4, LONG), (5, 5))
                self.spills(code, width, 1, None, "divisor", 3, -4, 5)
                self.assertNotEqual(clean(code, width + 1).side, "divisor")
            # Where the number of the divisor is 1, the only rest is 0.
            self.assertIsNone(clean(wide((word, "t", "v", [-3, 1]), (0, 0)), 2))
            self.spills(wide((word, "t", "v", [-3, 1]), (0, 2)), 2, 1, None, "above", 2)
            self.assertEqual(clean(Code([], [let("v"), (word, "t", "v", [-4, 1])]), 2).side, "divisor")

    def test_the_divisor_1_is_always_clean(self):
        for word in ("over", "rest"):
            for width in (1, 4000):
                self.assertIsNone(clean(wide((word, "t", "v", [1]), (-LONG, LONG), (-5, 5)), width))

    def test_a_rest_with_fewer_lanes_than_the_divisor_has(self):
        code = wide(("rest", "t", "v", [0] * 11 + [1]), (0, 3), (-1, 3))
        self.spills(code, 9, 1, None, "below", 0, -1)
        self.assertIsNone(clean(wide(("rest", "t", "v", [0] * 11 + [1]), (0, 3), (0, 3)), 2))
        self.assertIsNone(clean(wide(("rest", "t", "v", [0] * 11 + [1]), (0, LONG)), 200))

    # Point 35: the input.

    def test_lanes_that_do_not_matter_are_at_their_least(self):
        ranges = [(-5, 5), (3, 4), (2, 2), (-1, 0), (0, 9)]
        steps = [let("v", (1, "u", 0)), let("w", row=[100, 0]), let("w", (1, "w", 0), (1, "v", 2), (-1, "v", 1)),
                 ("read", "w", 3)]
        # Lane 2 of w is that of lane 0 less that of lane 1.
        self.spills(Code([("u", ranges)], steps), 6, 3, 0, "above", -5, 3, 2, -1, 0)
        self.spills(Code([("u", ranges)], steps), 7, 3, 1, "below", 5, 3, 2, -1, 0)
        steps[1] = let("w", row=[100, 5])
        self.spills(Code([("u", ranges)], steps), 7, 3, 2, "below", -5, 4, 2, -1, 0)
        steps[1] = let("w", row=[100, 5, 126])
        self.spills(Code([("u", ranges)], steps), 7, 3, 2, "above", 5, 3, 2, -1, 0)

    def test_terms_that_cancel_do_not_matter(self):
        steps = [let("v", (3, "u", 0), (-2, "u", 0), (-1, "u", 0), (1, "w", 0)), ("read", "v", 1)]
        code = Code([("u", [(-7, 7)]), ("w", [(0, 4), (-3, 3)])], steps)
        self.assertEqual(told(clean(code, 2)), (1, 0, "above", {"u": (-7,), "w": (4, -3)}))
        self.assertIsNone(clean(code, 3))

    def test_ranges_of_one_number(self):
        code = Code([("u", [(-6, -6), (7, 7)])], [let("v", (-1, "u", 0), (1, "u", 1)), ("read", "v", 2)])
        self.spills(code, 2, 1, 0, "above", -6, 7)
        self.spills(code, 3, 1, 1, "below", -6, 7)

    def test_multipliers_below_0(self):
        code = Code([("u", [(-6, 5), (-8, 7)])], [let("v", (-2, "u", 0)), ("balanced", "v", 2)])
        self.spills(code, 4, 1, 0, "below", 5, -8)
        self.assertIsNone(clean(code, 6))
        self.spills(code, 5, 1, 1, "above", -6, -8)

    def test_many_lanes_and_great_numbers(self):
        ranges = [(-LONG, LONG)] * 8
        inputs = [(name, ranges) for name in "abcdef"]
        steps = [let("v", *[(LONG if at % 2 else -LONG, name, 3 * at) for at, name in enumerate("abcdef")])]
        code = Code(inputs, steps + [("balanced", "v", 23)])
        spill = clean(code, 3000)
        self.assertEqual((spill.number, spill.lane, spill.side), (1, 0, "below"))
        self.assertEqual(spill.given["a"], (LONG,) + (-LONG,) * 7)
        self.assertEqual(spill.given["b"], (-LONG,) * 8)
        # One input comes into the lanes 0 to 2, two into the lanes 3 to 5, and three into lane 6.
        ends = {0: LONG * LONG, 3: 2 * LONG * LONG, 6: 3 * LONG * LONG}
        self.assertIsNone(clean(code, ends[6].bit_length() + 1))
        for width in (ends[0].bit_length(), ends[6].bit_length()):
            spill = clean(code, width)
            lane = min(lane for lane in ends if ends[lane] > 2 ** (width - 1))
            self.assertEqual((spill.lane, spill.side), (lane, "below"))

    # The class.

    def test_spills_are_equal_if_all_is(self):
        spill = Spill(1, 0, "below", {"u": (1,)})
        self.assertTrue(spill == Spill(1, 0, "below", {"u": (1,)}))
        self.assertFalse(spill != Spill(1, 0, "below", {"u": [1]}))
        for other in (Spill(2, 0, "below", {"u": (1,)}), Spill(1, None, "below", {"u": (1,)}), None, "below",
                      Spill(1, 0, "above", {"u": (1,)}), Spill(1, 0, "below", {"u": (2,)}), Spill(1, 0, "below", {})):
            self.assertFalse(spill == other)
            self.assertTrue(spill != other)
        code = wide(("read", "v", 1), (-1, 9))
        self.assertTrue(clean(code, 1) == clean(code, 4))
        self.assertFalse(clean(code, 1) == clean(wide(("read", "v", 1), (-2, 9)), 1))

    def test_what_is_told_is_new(self):
        code = wide(("read", "v", 1), (-1, 9))
        spill = clean(code, 2)
        self.assertEqual((type(spill.given), type(spill.given["u"])), (dict, tuple))
        spill.given.clear()
        self.assertEqual(clean(code, 2).given, {"u": (-1,)})
        given = {"u": [1]}
        spill = Spill(0, 0, "below", given)
        given["u"].append(2)
        given["w"] = 1
        self.assertEqual(spill.given, {"u": (1,)})

    def test_the_input_that_is_told_is_in_the_order_of_the_code(self):
        code = Code([("b", [(0, 1)]), ("a", [(2, 3), (0, 0)])], [("read", "a", 1)])
        self.assertEqual(list(clean(code, 1).given), ["b", "a"])
        self.assertEqual(clean(code, 1).given, given_of(code, [0, 3, 0]))


if __name__ == "__main__":
    plain.unittest.main()
