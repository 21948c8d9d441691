"""Point 38: codes that read the same."""

import random

import plain
from packedlanes.alike import Unlike, alike
from packedlanes.codes import Code
from packedlanes.errors import OtherInputs, OtherReads
from packedlanes.rounds import with_rounds
from packedlanes.runs import meaning

LONG = 10 ** 600 - 1
INPUTS = [("a", [(-3, 4), (0, 1)]), ("b", [(2, 2)]), ("e", [])]


def let(name, *terms, row=()):
    return ("let", name, list(terms), list(row))


def more(name, *terms, row=()):
    """A let as it may stand inside of rounds."""
    return let(name, (1, name, 0), *terms, row=row)


def of(*steps, inputs=INPUTS):
    return Code(inputs, steps)


def changed(source, code):
    """The code with some of its numbers changed, and with the same reads."""
    steps = []
    for step in code.steps:
        if step[0] == "let" and source.randint(0, 2) > 0:
            terms = [(factor + source.choice((0, 1)), name, shift) for factor, name, shift in step[2]]
            row = [entry + source.choice((0, 0, -1)) for entry in step[3]]
            step = ("let", step[1], terms, row)
        elif step[0] == "rounds" and source.randint(0, 2) == 0:
            step = ("rounds", step[1] + 1, step[2])
        elif step[0] in ("read", "balanced"):
            step = (source.choice(("read", "balanced")), *step[1:])
        steps.append(step)
    return Code(code.inputs, steps)


class AlikeTest(plain.Case):
    def unlike(self, one, other, read, lane):
        """The codes do not read the same, in both orders, and first there."""
        for first, second in ((one, other), (other, one)):
            found = alike(first, second)
            self.assertIsInstance(found, Unlike)
            self.assertEqual((found.read, found.lane), (read, lane))
            reads = [meaning(code, found.given).reads for code in (first, second)]
            self.assertNotEqual(reads[0][read][lane], reads[1][read][lane])
            self.assertEqual(type(found.given), dict)
            self.assertEqual([type(lanes) for lanes in found.given.values()], [tuple] * len(first.inputs))
            self.assertEqual(list(found.given), [name for name, _ in first.inputs])

    def test_example(self):
        steps = [let("s", row=[0]), ("rounds", 3, [more("s", (1, "u", 0))]), ("read", "s", 1)]
        grow = Code([("u", [(0, 3)])], steps)
        thrice = Code([("u", [(0, 3)])], [let("s", (3, "u", 0)), ("read", "s", 1)])
        self.assertIsNone(alike(grow, thrice))
        self.unlike(with_rounds(grow, 1, 2), thrice, 0, 0)

    def test_small_codes_for_all_inputs(self):
        source = random.Random(41)
        told = {True: 0, False: 0}
        for code in plain.codes_of(42, 1500):
            other = changed(source, code)
            unlike = []
            for given in plain.inputs_of(code):
                reads = [plain.Followed(one, 1, given).reads for one in (code, other)]
                unlike += [(read, lane) for read, lanes in enumerate(reads[0]) for lane, worth in enumerate(lanes)
                           if worth != reads[1][read][lane]]
            told[unlike == []] += 1
            if unlike:
                self.unlike(code, other, *min(unlike))
            else:
                self.assertIsNone(alike(code, other))
        self.assertTrue(min(told.values()) > 100)

    # What is refused.

    def test_other_inputs(self):
        code = of(("read", "a", 1))
        for inputs in ([*INPUTS, ("f", [])], INPUTS[:2], [INPUTS[1], INPUTS[0], INPUTS[2]], [],
                       [("c", INPUTS[0][1]), *INPUTS[1:]], [("a", [(-3, 4), (0, 2)]), *INPUTS[1:]],
                       [("a", [(-4, 4), (0, 1)]), *INPUTS[1:]], [("a", [(0, 1), (-3, 4)]), *INPUTS[1:]],
                       [("a", [(-3, 4)]), *INPUTS[1:]]):
            # The inputs are looked at before the reads.
            for other in (of(inputs=inputs), of(let("v"), ("read", "v", 1), inputs=inputs)):
                for one, more_codes in ((code, other), (other, code)):
                    with self.assertRaises(OtherInputs):
                        alike(one, more_codes)

    def test_other_reads(self):
        code = of(("read", "a", 1), let("v"), ("rest", "r", "v", [1]), ("balanced", "a", 2), ("read", "v", 3))
        for number, reads in [(0, []), (0, [2, 2, 3]), (0, [2]), (1, [1]), (1, [1, 3, 3]), (1, [1, 1, 3]), (2, [1, 2]),
                              (2, [1, 2, 4]), (3, [1, 2, 3, 3]), (3, [1, 2, 3, 1, 1])]:
            for word in ("read", "balanced"):
                other = of(*((word, "b", count) for count in reads))
                self.refused(OtherReads, "number", number, alike, code, other)
                self.refused(OtherReads, "number", number, alike, other, code)
        self.refused(OtherReads, "number", 0, alike, of(), of(("read", "a", 24)))

    # What is the same.

    def test_without_reads(self):
        self.assertIsNone(alike(of(), of()))
        self.assertIsNone(alike(Code([], []), Code([], [let("v", row=[9])])))
        self.assertIsNone(alike(of(let("v", (1, "a", 0))), of(("over", "w", "b", [7, 1]), ("rounds", 4, []))))

    def test_reads_and_balanced_steps_are_compared_alike(self):
        self.assertIsNone(alike(of(("read", "a", 2)), of(("balanced", "a", 2))))
        self.unlike(of(("read", "a", 2)), of(let("v", (1, "a", 0), row=[0, 5]), ("balanced", "v", 2)), 0, 1)

    def test_names_steps_and_lanes_that_are_not_read_do_not_matter(self):
        one = of(let("v", (2, "a", 0), row=[0, 0, 5]), ("read", "v", 2))
        other = of(let("x", (1, "a", 1), (1, "a", 1)), ("over", "y", "x", [0, 1]), ("rest", "z", "x", [7, 1]),
                   let("x"), ("read", "y", 2))
        self.assertIsNone(alike(one, other))
        self.unlike(of(*one.steps[:1], ("read", "v", 3)), of(*other.steps[:4], ("read", "y", 3)), 0, 2)

    def test_other_ways_to_the_same_reads(self):
        one = of(let("v", (1, "a", 0)), ("rounds", 5, [more("v", (1, "a", 0), row=[2])]), ("read", "v", 2))
        self.assertIsNone(alike(one, of(let("v", (6, "a", 0), row=[10]), ("balanced", "v", 2))))
        # The rest row by (-1, 1) is the sum of all entries.
        one = of(("rest", "s", "a", [-1, 1]), ("read", "s", 1))
        self.assertIsNone(alike(one, of(("over", "t", "a", [0, 1]), let("s", (1, "a", 0), (1, "t", 0)), ("read", "s", 1))))
        self.unlike(one, of(("over", "t", "a", [0, 1]), let("s", (1, "a", 0), (2, "t", 0)), ("read", "s", 1)), 0, 0)

    def test_multipliers_of_inputs_with_one_number_do_not_matter(self):
        one = of(let("v", (5, "b", 0), (1, "a", 1)), ("read", "v", 3))
        self.assertIsNone(alike(one, of(let("v", (1, "a", 1), row=[10]), ("read", "v", 3))))
        self.assertIsNone(alike(one, of(let("v", (1, "a", 1), (-3, "b", 0), row=[16]), ("read", "v", 3))))
        self.unlike(one, of(let("v", (1, "a", 1), row=[11]), ("read", "v", 3)), 0, 0)

    def test_codes_that_are_the_same_at_one_corner_only(self):
        # The worth at the corner of all least numbers is the same, then that at the one of all greatest.
        self.unlike(of(("read", "a", 1)), of(let("v", (2, "a", 0), row=[3]), ("read", "v", 1)), 0, 0)
        self.unlike(of(("read", "a", 1)), of(let("v", (2, "a", 0), row=[-4]), ("read", "v", 1)), 0, 0)
        self.unlike(of(let("v", row=[4]), ("read", "v", 1)), of(("read", "a", 1)), 0, 0)
        code = of(("over", "t", "a", [0, 1]), let("v", (1, "a", 0), (7, "t", 0), row=[-7]), ("read", "v", 1))
        self.unlike(of(("read", "a", 1)), code, 0, 0)

    def test_the_first_read_and_lane_of_all_inputs(self):
        # At the least corner, only the read 1 is not the same; with lane 1 of a at its greatest, the read 0 is not.
        one = of(("read", "a", 2), ("read", "a", 1))
        other = of(let("v", (1, "a", 0), (1, "a", 1)), ("over", "w", "a", [0, 1]), let("w", (-1, "w", 2), (1, "a", 0)),
                   let("w", (1, "a", 0), (-1, "w", 0)), let("x", (1, "a", 0), (1, "w", 0)), let("y", row=[9]),
                   ("read", "a", 2), ("read", "y", 1))
        self.unlike(one, other, 1, 0)
        one = of(let("z"), ("read", "z", 3), ("read", "z", 1))
        t = ("over", "t", "a", [0, 1])
        self.unlike(one, of(t, let("v", (1, "t", 2)), ("read", "v", 3), ("read", "b", 1)), 0, 2)
        self.unlike(one, of(t, let("v", (1, "t", 2)), ("read", "e", 3), ("read", "b", 1)), 1, 0)
        self.unlike(one, of(t, let("v", (1, "t", 1), (1, "b", 2)), ("read", "v", 3), ("read", "b", 1)), 0, 1)

    def test_numbers_are_compared_as_they_are_meant(self):
        # At small widths these are the same digits, but not as rows.
        one, other = of(let("v", row=[16, 0]), ("read", "v", 2)), of(let("v", row=[0, 1]), ("read", "v", 2))
        self.unlike(one, other, 0, 0)
        self.unlike(of(let("v", row=[LONG]), ("read", "v", 1)), of(let("v", row=[LONG - 1]), ("read", "v", 1)), 0, 0)

    def test_what_is_told_is_new(self):
        given = {"a": [1]}
        found = Unlike(0, 0, given)
        given["a"].append(2)
        given["b"] = []
        self.assertEqual(found.given, {"a": (1,)})

    def test_great_codes(self):
        inputs = [(name, [(-LONG, LONG)] * 8) for name in "abcdef"]
        terms = [(LONG, name, 3 * at) for at, name in enumerate("abcdef")]
        steps = [let("v", *terms, row=[LONG] * 24), ("rest", "r", "v", [LONG] * 11 + [1]), ("read", "v", 24)]
        code = Code(inputs, [*steps, ("read", "r", 11)])
        self.assertIsNone(alike(code, Code(inputs, [let("v", *terms[::-1], row=[LONG] * 24), *steps[1:],
                                                    ("balanced", "r", 11)])))
        self.unlike(code, Code(inputs, [*steps, let("r", (1, "r", 0), row=[0] * 10 + [1]), ("read", "r", 11)]), 1, 10)


if __name__ == "__main__":
    plain.unittest.main()
