"""Points 22 to 26: what a code means, what a run of it tells, and the first place that spills."""

import plain
from packedlanes.codes import Code
from packedlanes.errors import BadInput, BadWidth, TooGreat
from packedlanes.runs import Meaning, Run, meaning, run, spilled

LONG = 10 ** 600 - 1
NONE = Code([], [])


def let(name, *terms, row=()):
    return ("let", name, list(terms), list(row))


def more(name, *terms, row=()):
    """A let as it may stand inside of rounds."""
    return let(name, (1, name, 0), *terms, row=row)


def of_rows(rows, *steps):
    """A code that sets each name to a row, and then does some steps."""
    return Code([], [let(name, row=rows[name]) for name in rows] + list(steps))


class RunsTest(plain.Case):
    def rows(self, code, given=()):
        return meaning(code, dict(given)).rows

    def tells(self, code, width, reads, given=()):
        """A run tells these lanes, and ends at the end of the code."""
        found = run(code, width, dict(given))
        self.assertEqual((found.reads, found.stopped), (reads, None))

    def test_example(self):
        steps = [let("v", (1, "a", 0), (1, "b", 0)), ("read", "v", 2), ("rest", "s", "v", [-1, 1]), ("read", "s", 1)]
        pair = Code([("a", [(0, 9), (0, 9)]), ("b", [(0, 9), (0, 9)])], steps)
        given = {"a": [1, 2], "b": [3, 9]}
        self.assertEqual([meaning(pair, given).reads, run(pair, 5, given).reads, run(pair, 4, given).reads],
                         [[(4, 11), (15,)], [(4, 11), (15,)], [(4, 11), (0,)]])
        self.assertEqual([spilled(pair, 5, given), spilled(pair, 4, given), spilled(pair, 3, given)], [None, 2, 1])

    def test_small_codes_step_by_step(self):
        for code in plain.codes_of(1, 300):
            for given in plain.inputs_of(code):
                told = meaning(code, given)
                for width in (1, 2, 3, 4, 9):
                    found, plainly = run(code, width, given), plain.Followed(code, width, given)
                    self.assertEqual((told.rows, told.reads), (plainly.rows, plainly.reads))
                    self.assertEqual((found.numbers, found.reads, found.stopped),
                                     (plainly.numbers, plainly.shown, plainly.stopped))
                    self.assertEqual(spilled(code, width, given), plainly.spilled)

    # Point 22: inputs.

    def refused_by_all(self, name, code, given):
        self.refused(BadInput, "name", name, meaning, code, given)
        for width in (1, 4000):
            self.refused(BadInput, "name", name, run, code, width, given)
            self.refused(BadInput, "name", name, spilled, code, width, given)

    def test_inputs_that_are_refused(self):
        code = Code([("b", [(0, 3), (-2, -1)]), ("a", []), ("c", [(5, 5)])], [])
        right = {"b": [0, -1], "a": [], "c": [5]}
        meaning(code, right)
        for name, worth in [("b", [0]), ("b", []), ("b", [0, -1, 0]), ("b", [4, -1]), ("b", [-1, -1]), ("b", [0, 0]),
                            ("b", [0, -3]), ("b", [10 ** 700, -1]), ("a", [0]), ("c", [4]), ("c", [6]), ("c", [5, 0])]:
            self.refused_by_all(name, code, {**right, name: worth})
        for name in right:
            self.refused_by_all(name, code, {other: right[other] for other in right if other != name})

    def test_the_first_input_in_the_order_of_the_code_is_told(self):
        code = Code([("b", [(0, 3)]), ("a", [(0, 3)])], [])
        self.refused_by_all("b", code, {})
        self.refused_by_all("b", code, {"a": [9], "b": [9]})
        self.refused_by_all("b", code, {"a": [0, 0], "b": []})
        self.refused_by_all("a", code, {"a": [9], "b": [3]})

    def test_other_names_are_not_looked_at(self):
        code = Code([("a", [(0, 3)])], [let("v", (2, "a", 0))])
        given = {"v": [7], "zz": None, "": "x", "a": [3], 5: [9] * 99}
        self.assertEqual(meaning(code, given).rows, {"a": (3,), "v": (6,)})
        self.assertEqual(run(code, 3, given).numbers, {"a": 3, "v": 6})
        self.assertIsNone(spilled(code, 3, given))
        self.assertEqual(meaning(NONE, {"a": 1}).rows, {})

    def test_lists_and_tuples_at_the_ends_of_ranges(self):
        code = Code([("a", [(-LONG, LONG), (7, 7)])], [let("v", (1, "a", 1))])
        for worth in (-LONG, LONG, 0):
            for given in ({"a": [worth, 7]}, {"a": (worth, 7)}):
                self.assertEqual(self.rows(code, given), {"a": (worth, 7), "v": (0, worth, 7)})
                self.assertEqual(run(code, 9, given).numbers["v"], (worth << 9) + (7 << 18))
        for worth in (-LONG - 1, LONG + 1):
            self.refused_by_all("a", code, {"a": [worth, 7]})

    # Point 23: what is meant.

    def test_without_steps(self):
        told = meaning(NONE, {})
        self.assertIsInstance(told, Meaning)
        self.assertEqual((told.rows, told.reads), ({}, []))
        code = Code([("a", [(-1, 1), (0, 1), (0, 0)]), ("e", [])], [])
        self.assertEqual(self.rows(code, {"a": [-1, 0, 0], "e": []}), {"a": (-1,), "e": ()})
        self.assertEqual(self.rows(code, {"a": [0, 1, 0], "e": ()}), {"a": (0, 1), "e": ()})

    def test_lets(self):
        rows = {"v": [1, -2, 3], "z": [0, 0]}
        for terms, row, wanted in [([], [], ()), ([], [0, 5, 0], (0, 5)), ([(2, "v", 0)], [], (2, -4, 6)),
                                   ([(-1, "v", 1)], [7], (7, -1, 2, -3)), ([(1, "v", 0), (-1, "v", 0)], [0, 0], ()),
                                   ([(1, "v", 2), (3, "v", 0), (0, "v", 4)], [1], (4, -6, 10, -2, 3)),
                                   ([(5, "z", 9)], [1], (1,)), ([(1, "v", 0)], [0, 2, -3, 4], (1, 0, 0, 4))]:
            self.assertEqual(self.rows(of_rows(rows, let("x", *terms, row=row)))["x"], wanted)

    def test_rows_have_no_zeros_at_their_end(self):
        code = of_rows({"v": [1, 2, 0], "w": [0, 0]}, ("over", "x", "v", [0, 0, 0, 1]), ("rest", "y", "v", [-1, 0, 1]),
                       let("z", (1, "v", 0), row=[0, -2]))
        self.assertEqual(self.rows(code), {"v": (1, 2), "w": (), "x": (), "y": (1, 2), "z": (1,)})

    def test_names_mean_what_they_hold_when_the_step_begins(self):
        code = of_rows({"v": [1, 2]}, let("v", (1, "v", 0), (10, "v", 1), row=[3]), ("over", "v", "v", [-1, 1]),
                       let("v", (2, "v", 0)), ("rest", "v", "v", [0, 1]), let("w", (1, "v", 0)), let("v", row=[9]))
        self.assertEqual(self.rows(code), {"v": (9,), "w": (64,)})
        self.assertEqual(run(code, 9, {}).numbers, {"v": 9, "w": 64})

    def test_over_and_rest(self):
        entries = [4, -7, 0, 2, 5]
        for divisor in ([1], [0, 1], [0, 0, 1], [-1, 1], [5, -3, 1], [2, 0, 0, 0, 1], [1, 1, 1, 1, 1, 1], [9, 1]):
            code = of_rows({"v": entries}, ("over", "q", "v", divisor), ("rest", "r", "v", divisor))
            rows = self.rows(code)
            self.assertEqual((rows["q"], rows["r"]), plain.divided(entries, divisor))
        code = of_rows({"v": [3, 0, -2]}, ("over", "q", "v", [-1, 1]), ("rest", "r", "v", [-1, 1]))
        self.assertEqual((self.rows(code)["q"], self.rows(code)["r"]), ((-2, -2), (1,)))

    def test_reads_in_order_with_all_their_lanes(self):
        code = of_rows({"v": [4, 0, -5]}, ("read", "v", 5), ("balanced", "v", 1), let("v", row=[1]), ("balanced", "v", 2),
                       ("read", "v", 24), ("read", "v", 1))
        self.assertEqual(meaning(code, {}).reads, [(4, 0, -5, 0, 0), (4,), (1, 0), (1,) + (0,) * 23, (1,)])

    # Point 14: rounds.

    def test_rounds(self):
        for count in (0, 1, 2, 7, LONG):
            code = Code([("a", [(0, 9), (0, 9)])],
                        [let("v", row=[5]), let("w", row=[0, 1]), let("x", row=[2]),
                         ("rounds", count, [more("v", (3, "a", 1), (-1, "x", 0), row=[1, 0, 4]), more("w", (2, "a", 0))]),
                         ("read", "v", 3)])
            given = {"a": [1, 6]}
            rows = {"a": (1, 6), "x": (2,), "v": plain.total([5], [-count, 3 * count, 22 * count]),
                    "w": plain.total([0, 1], [2 * count, 12 * count])}
            self.assertEqual(self.rows(code, given), rows)
            for width in (1, 5, 4000):
                numbers = {name: plain.number(rows[name], width) for name in rows}
                self.assertEqual(run(code, width, given).numbers, numbers)

    def test_rounds_without_lets_and_with_one_term(self):
        steps = [let("v", row=[5]), ("rounds", 9, []), ("rounds", 9, [more("v")]), ("read", "v", 1)]
        self.assertEqual(meaning(Code([], steps), {}).reads, [(5,)])
        self.tells(Code([], steps), 3, [(5,)])

    def test_numbers_of_steps_count_the_lets_of_rounds(self):
        rounds = ("rounds", 2, [more("v", row=[1]), more("w", row=[1])])
        code = of_rows({"v": [1], "w": []}, rounds, ("read", "v", 1), ("over", "v", "v", [-5, 1]), ("read", "v", 1))
        self.assertEqual([spilled(code, width, {}) for width in (1, 2, 3, 4)], [5, 6, 6, None])
        self.assertEqual([run(code, 2, {}).stopped, run(code, 3, {}).stopped], [6, None])

    # Point 24: runs.

    def test_widths(self):
        code = Code([("a", [(0, 1)])], [("read", "a", 1)])
        for action in (run, spilled):
            for width in (0, -1, -10 ** 30):
                self.refused(BadWidth, "width", width, action, code, width, {"a": [1]})
                # The width is checked before the input.
                self.refused(BadWidth, "width", width, action, code, width, {})
            for width in (4001, 10 ** 30):
                with self.assertRaises(TooGreat):
                    action(code, width, {"a": [1]})
                with self.assertRaises(TooGreat):
                    action(code, width, {"a": [7]})
            for width in (1, 2, 3999, 4000):
                action(code, width, {"a": [1]})

    def test_packs_of_inputs_and_shifts(self):
        code = Code([("a", [(-9, 9), (-9, 9)]), ("e", [])],
                    [let("v", (-2, "a", 3), (1, "e", 20), row=[0, 5]), ("read", "v", 1)])
        for width in (1, 4, 4000):
            found = run(code, width, {"a": [-3, 7], "e": []})
            self.assertIsInstance(found, Run)
            pack = -3 + 7 * 2 ** width
            self.assertEqual(found.numbers, {"a": pack, "e": 0, "v": -2 * pack * 2 ** (3 * width) + 5 * 2 ** width})

    def test_digits_of_integers_of_both_signs(self):
        for number in (0, 1, -1, 5, -5, 37, -37, 1000, -1000, 2 ** 70, -(2 ** 70), -(3 ** 50)):
            for width in (1, 2, 3, 8):
                for count in (1, 2, 5, 24):
                    code = of_rows({"v": [number]}, ("read", "v", count), ("balanced", "v", count))
                    half = 2 ** (width - 1)
                    self.tells(code, width, [plain.digits(number, width, count, 0),
                                             plain.digits(number, width, count, -half)])

    def test_digits_tell_the_same_remainder(self):
        for number in (-7, 12345, -12345):
            for width, count in ((1, 3), (4, 2), (9, 1), (4000, 2)):
                code = of_rows({"v": [number]}, ("read", "v", count), ("balanced", "v", count))
                up, balanced = run(code, width, {}).reads
                for told, least in ((up, 0), (balanced, -(2 ** (width - 1)))):
                    self.assertEqual((plain.number(told, width) - number) % 2 ** (count * width), 0)
                    self.assertTrue(all(least <= digit < least + 2 ** width for digit in told))
                    self.assertEqual(len(told), count)

    def test_over_and_rest_of_integers(self):
        for entries in ([7, 3], [-7, 2], [0, -1], [100], [-100]):
            for divisor in ([1], [0, 1], [-1, 1], [3, 1], [-2, 0, 1]):
                code = of_rows({"v": entries}, ("over", "q", "v", divisor), ("rest", "r", "v", divisor))
                for width in (2, 3, 5):
                    number, by = plain.number(entries, width), plain.number(divisor, width)
                    numbers = run(code, width, {}).numbers
                    self.assertEqual((numbers["q"], numbers["r"]), (number // by, number % by))

    def test_a_run_stops_before_a_divisor_that_is_not_greater_than_0(self):
        for word in ("over", "rest"):
            code = of_rows({"v": [6]}, ("read", "v", 1), (word, "w", "v", [-4, 1]), ("read", "w", 1), let("x"),
                           ("over", "v", "v", [-9, 1]))
            for width, stopped in ((1, 2), (2, 2), (3, 5), (4, None)):
                found = run(code, width, {})
                self.assertEqual(found.stopped, stopped)
                names = {2: ["v"], 5: ["v", "w", "x"], None: ["v", "w", "x"]}[stopped]
                self.assertEqual(list(found.numbers), names)
                self.assertEqual(len(found.reads), 1 if stopped == 2 else 2)
                self.assertEqual(found.reads[0], (6 % 2 ** width,))
            # The number of the divisor (-4, 1) is 0 at the width 2, and 1 would do.
            self.assertEqual(run(of_rows({"v": [6]}, (word, "w", "v", [-3, 1])), 2, {}).stopped, None)

    def test_an_empty_row_by_a_divisor_that_is_not_greater_than_0(self):
        code = of_rows({"v": []}, ("rest", "w", "v", [-4, 1]))
        self.assertEqual([run(code, 2, {}).stopped, spilled(code, 2, {}), run(code, 2, {}).numbers], [1, 1, {"v": 0}])
        self.assertEqual([run(code, 3, {}).stopped, spilled(code, 3, {})], [None, None])

    # Points 25 and 26: places that are not clean.

    def test_reads_are_clean_exactly_if_all_lanes_are_digits(self):
        for worth in (-5, -4, -1, 0, 1, 3, 4, 7, 8):
            for row in ([worth], [worth, 1], [1, worth], [0, 0, worth], [1, 1, 1, worth]):
                for count in (1, 3):
                    lanes = [plain.entry(row, lane) for lane in range(count)]
                    for width in (1, 2, 3):
                        half = 2 ** (width - 1)
                        clean = all(0 <= lane < 2 * half for lane in lanes)
                        code = of_rows({"v": row}, ("read", "v", count))
                        self.assertEqual(spilled(code, width, {}), None if clean else 1)
                        clean = all(-half <= lane < half for lane in lanes)
                        code = of_rows({"v": row}, ("balanced", "v", count))
                        self.assertEqual(spilled(code, width, {}), None if clean else 1)

    def test_over_and_rest_are_clean_exactly_if_the_rest_row_has_a_rest_as_its_number(self):
        for entries in ([5, -1], [0, 5, -1], [3, 3], [-1, 0, 1], [4, 4, 4], [0, 0, 7], [-3]):
            for divisor in ([-1, 1], [0, 0, 1], [1, 1], [-6, 1], [1], [-9, 0, 1]):
                rest = plain.divided(entries, divisor)[1]
                for width in (1, 2, 3, 4):
                    clean = 0 <= plain.number(rest, width) < plain.number(divisor, width)
                    for word in ("over", "rest"):
                        code = of_rows({"v": entries}, (word, "w", "v", divisor))
                        self.assertEqual(spilled(code, width, {}), None if clean else 1)

    def test_the_first_place_that_is_not_clean(self):
        # At the width 2 the first read is clean, the rest is not; what is read of it would be right.
        code = of_rows({"v": [3, 3]}, ("read", "v", 2), ("rest", "s", "v", [-1, 1]), ("read", "s", 3))
        self.assertEqual([spilled(code, width, {}) for width in (1, 2, 3, 4)], [1, 2, None, None])
        # What spilled may be right again by chance: this is still the first place.
        code = of_rows({"v": [4]}, ("read", "v", 1), let("v"), ("read", "v", 1))
        self.assertEqual([spilled(code, 2, {}), spilled(code, 3, {})], [1, None])

    def test_a_place_that_is_clean_with_one_input_only(self):
        code = Code([("a", [(0, 4)])], [let("v", (1, "a", 0)), ("read", "v", 1)])
        self.assertEqual([spilled(code, 2, {"a": [worth]}) for worth in range(5)], [None] * 4 + [1])

    def test_without_places(self):
        code = of_rows({"v": [-9, 10 ** 50]}, ("rounds", 3, [more("v", row=[1])]))
        self.assertEqual([spilled(code, 1, {}), spilled(NONE, 1, {}), spilled(NONE, 4000, {})], [None] * 3)
        self.assertEqual((run(NONE, 7, {}).numbers, run(NONE, 7, {}).reads, run(NONE, 7, {}).stopped), ({}, [], None))

    # Point 2.

    def test_what_is_given_and_told_is_new(self):
        code = Code([("a", [(0, 9)])], [let("v", (2, "a", 0)), ("read", "v", 1)])
        given = {"a": [4]}
        first, told = meaning(code, given), run(code, 5, given)
        given["a"].append(1)
        first.reads.append(1)
        first.rows["v"] = told.numbers["v"] = None
        told.reads.clear()
        self.assertEqual((meaning(code, {"a": [4]}).reads, run(code, 5, {"a": [4]}).reads), ([(8,)], [(8,)]))
        self.assertEqual((first.rows["a"], told.numbers["a"]), ((4,), 4))
        self.assertEqual(code.steps[1:], (("read", "v", 1),))

    def test_lists_are_copied(self):
        named, reads = {"v": (1,)}, [(1,)]
        told, found = Meaning(named, reads), Run(named, reads, None)
        named.clear()
        reads.clear()
        self.assertEqual((told.rows, told.reads, found.numbers, found.reads), ({"v": (1,)}, [(1,)]) * 2)

    def test_kinds_of_what_is_told(self):
        code = Code([("a", [(0, 9)])], [("read", "a", 2), ("balanced", "a", 1), ("over", "v", "a", [0, 1]),
                                        ("rest", "w", "a", [0, 1])])
        told, found = meaning(code, {"a": [4]}), run(code, 5, {"a": [4]})
        for reads in (told.reads, found.reads):
            self.assertIsInstance(reads, list)
            self.assertEqual([type(lanes) for lanes in reads], [tuple, tuple])
        self.assertEqual([type(row) for row in told.rows.values()], [tuple] * 3)
        self.assertEqual([type(number) for number in found.numbers.values()], [int] * 3)
        self.assertEqual((type(told.rows), type(found.numbers)), (dict, dict))

    def test_great_numbers(self):
        grow = [("over", "v", "v", [LONG] * 11 + [1]), ("rest", "w", "v", [LONG, 1]), let("v", (1, "w", 23))]
        code = Code([("a", [(-LONG, LONG)] * 8)], [let("v", (LONG, "a", 16)), *grow, *grow, *grow, ("read", "v", 24)])
        given = {"a": [LONG, -LONG, 5, 0, 0, LONG, 1, LONG]}
        told, plainly = meaning(code, given), plain.Followed(code, 1, given)
        self.assertEqual((told.rows, told.reads), (plainly.rows, plainly.reads))
        for width in (3, 1993, 1995, 4000):
            plainly = plain.Followed(code, width, given)
            self.assertEqual((run(code, width, given).numbers, spilled(code, width, given)),
                             (plainly.numbers, plainly.spilled))


if __name__ == "__main__":
    plain.unittest.main()
