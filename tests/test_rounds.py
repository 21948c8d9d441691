"""Point 37: codes with another number of rounds, and for which numbers they are clean for all inputs."""

import random

import plain
from packedlanes.checking import clean
from packedlanes.codes import Code
from packedlanes.errors import BadCount, BadWidth, NoRounds, TooGreat
from packedlanes.rounds import stretch, with_rounds

LONG = 10 ** 600 - 1
MANY = 30


def let(name, *terms, row=()):
    return ("let", name, list(terms), list(row))


def more(name, *terms, row=()):
    """A let as it may stand inside of rounds."""
    return let(name, (1, name, 0), *terms, row=row)


def growing(start, *lets, step=("read", "v", 1), ranges=((0, 3),), count=3):
    """A code that sets v to a row, and then does some rounds, at the step 1, and a step."""
    return Code([("u", ranges)], [let("v", row=start), ("rounds", count, lets), step])


def numbers_of_rounds(code):
    told, at = [], 0
    for step in code.steps:
        if step[0] == "rounds":
            told.append(at)
        at += 1 + (len(step[2]) if step[0] == "rounds" else 0)
    return told, at


def some_code(source):
    """A code with rounds at the step 2, with numbers of quite unlike sizes."""
    most = source.choice((3, 50, 10 ** 6, 10 ** 30))

    def number():
        return source.randint(-most, most)

    def terms(count):
        return [(source.choice((number(), 1, -1, 0)), "u", source.randint(0, 3)) for _ in range(count)]

    lows = [number() for _ in range(source.randint(1, 8))]
    ranges = [(low, low + source.choice((0, 1, source.randint(0, most)))) for low in lows]
    lets = [more("v", *terms(source.randint(0, 2)), row=[number() for _ in range(source.randint(0, 4))])]
    if source.randint(0, 1):
        lets.append(more("w", *terms(1)))
    places = [("read", "v", source.randint(1, 4)), ("balanced", "v", source.randint(1, 5)), ("rest", "r", "v", [-1, 1]),
              ("rest", "r", "v", [0, 0, 1]), ("over", "r", "v", [source.randint(-3, 3), source.randint(-3, 3), 1])]
    others = [("read", "w", 1), ("balanced", "w", 3), ("rest", "r", "w", [0, 0, 0, 1])]
    start = [number() * source.choice((1, 1000)) for _ in range(3)]
    return Code([("u", ranges)], [let("v", *terms(2), row=start), let("w", *terms(1), row=[number(), number()]),
                                  ("rounds", 3, lets), source.choice(places), source.choice(others)])


class RoundsTest(plain.Case):
    def test_example(self):
        steps = [let("s", row=[0]), ("rounds", 3, [more("s", (1, "u", 0))]), ("read", "s", 1)]
        grow = Code([("u", [(0, 3)])], steps)
        self.assertEqual([stretch(grow, 1, 4), clean(with_rounds(grow, 1, 6), 4).side], [(0, 5), "above"])

    # Another number of rounds.

    def test_with_rounds(self):
        rounds = [("rounds", 3, [more("v", row=[1])]), ("rounds", 4, []), ("rounds", 5, [more("v"), more("w")])]
        start = [let("v"), let("w")]
        code = Code([("u", [(0, 1)])], [*start, *rounds, ("read", "v", 1)])
        for count in (0, 1, 3, LONG):
            for at, number in enumerate((2, 4, 5)):
                changed = list(rounds)
                changed[at] = ("rounds", count, rounds[at][2])
                found = with_rounds(code, number, count)
                self.assertIsInstance(found, Code)
                self.assertEqual((found.inputs, found.steps), (code.inputs, Code(code.inputs, [*start, *changed,
                                                                                   ("read", "v", 1)]).steps))
        self.assertEqual(code.steps[2][1], 3)
        self.assertTrue(with_rounds(code, 2, 3) == code)

    def test_steps_that_are_no_rounds(self):
        rounds = ("rounds", 3, [more("v"), more("w")])
        code = Code([("u", [(0, 1)])], [let("v"), let("w"), rounds, ("read", "v", 1), ("rest", "r", "v", [1])])
        for number in (-1, -5, 0, 1, 3, 4, 5, 6, 7, 10 ** 30):
            for count in (1, -1, LONG + 1):
                self.refused(NoRounds, "number", number, with_rounds, code, number, count)
            for width in (3, 0, 4001):
                self.refused(NoRounds, "number", number, stretch, code, number, width)
        self.refused(NoRounds, "number", 0, with_rounds, Code([], []), 0, 1)

    def test_counts_that_are_refused(self):
        code = growing([1], more("v"))
        for count in (-1, -10 ** 700):
            self.refused(BadCount, "count", count, with_rounds, code, 1, count)
        for count in (LONG + 1, 10 ** 5000):
            with self.assertRaises(TooGreat):
                with_rounds(code, 1, count)

    def test_widths(self):
        code = growing([1], more("v"))
        for width in (0, -1, -10 ** 30):
            self.refused(BadWidth, "width", width, stretch, code, 1, width)
        for width in (4001, 10 ** 30):
            with self.assertRaises(TooGreat):
                stretch(code, 1, width)
        self.assertEqual([stretch(code, 1, width) for width in (1, 4000)], [(0, None)] * 2)

    # Stretches.

    def test_small_codes_number_by_number(self):
        for seed, most in ((31, 2), (32, 5), (33, 20)):
            for code in plain.codes_of(seed, 120, most):
                for number in numbers_of_rounds(code)[0]:
                    for width in (1, 2, 3, 5):
                        told = [clean(with_rounds(code, number, count), width) is None for count in range(MANY)]
                        self.is_told(stretch(code, number, width), told)

    def is_told(self, found, told):
        """What is told of the numbers of rounds from 0 on; from half of them on, nothing changes in small codes."""
        counts = [count for count, holds in enumerate(told) if holds]
        if not counts:
            self.assertIsNone(found)
        elif counts[-1] == len(told) - 1:
            self.assertEqual((found[0], found[1] is None or found[1] >= counts[-1]), (counts[0], True))
        else:
            self.assertEqual(found, (counts[0], counts[-1]))

    def test_both_ends_of_stretches(self):
        source = random.Random(34)
        kinds = set()
        for _ in range(150):
            code = some_code(source)
            for width in (source.randint(1, 8), source.randint(8, 40), source.randint(40, 130)):
                found = stretch(code, 2, width)
                if found is None:
                    self.are(False, code, width, [*range(6), *(source.randint(0, 10 ** n) for n in range(1, 20))])
                    kinds.add(None)
                else:
                    least, greatest = found
                    last = least + 10 ** 60 if greatest is None else greatest
                    self.are(True, code, width, [least, last, source.randint(least, last)])
                    self.are(False, code, width, range(max(0, least - 1), least))
                    if greatest is not None:
                        self.are(False, code, width, [greatest + 1, greatest + source.randint(1, 10 ** 9)])
                    kinds.add((least > 0, greatest is None, greatest == least))
        self.assertTrue({None, (True, False, False), (False, True, False), (False, False, True)} <= kinds)

    def are(self, wanted, code, width, counts):
        for count in counts:
            self.assertEqual(clean(with_rounds(code, 2, count), width) is None, wanted)

    def test_all_from_a_least_one_on(self):
        for width in (1, 4, 4000):
            self.assertEqual(stretch(growing([-5], more("v", row=[1]), step=("over", "t", "v", [1])), 1, width), (0, None))
            self.assertEqual(stretch(growing([1], more("v")), 1, width), (0, None))
            self.assertEqual(stretch(growing([1]), 1, width), (0, None))
        code = growing([0, 1], more("v", row=[0, 0, 7]), step=("read", "v", 2))
        self.assertEqual(stretch(code, 1, 1), (0, None))

    def test_none(self):
        for lets in ([], [more("v")], [more("v", row=[-1])], [more("v", (-1, "u", 0))]):
            for step in (("read", "v", 1), ("balanced", "v", 1), ("over", "t", "v", [0, 1]), ("rest", "t", "v", [-1, 1])):
                self.assertIsNone(stretch(growing([-9], *lets, step=step), 1, 3))
        # It grows past all digits of the width at once, or between two lanes never fits.
        self.assertIsNone(stretch(growing([-1], more("v", row=[5])), 1, 2))
        self.assertIsNone(stretch(growing([-5, 9], more("v", row=[1, 1]), step=("read", "v", 2)), 1, 3))
        self.assertEqual(stretch(growing([-5, 2], more("v", row=[1, 1]), step=("read", "v", 2)), 1, 3), (5, 5))

    def test_from_a_least_one_to_a_greatest_one(self):
        self.assertEqual(stretch(growing([-9], more("v", row=[1])), 1, 3), (9, 16))
        self.assertEqual(stretch(growing([-9], more("v", row=[2])), 1, 3), (5, 8))
        self.assertEqual(stretch(growing([-9], more("v", row=[1]), step=("balanced", "v", 1)), 1, 3), (5, 12))
        self.assertEqual(stretch(growing([9], more("v", row=[-2])), 1, 3), (1, 4))
        self.assertEqual(stretch(growing([9], more("v", row=[-9])), 1, 3), (1, 1))
        self.assertEqual(stretch(growing([4], more("v", row=[0, 0, 1]), step=("read", "v", 3)), 1, 3), (0, 7))
        self.assertEqual(stretch(growing([], more("v", (1, "u", 0), row=[-3])), 1, 3), (0, 0))

    def test_lines_that_bend(self):
        # 12 u - n u is 0 at n = 12, and between -7 and 7 from 5 to 19 for u = 1.
        code = Code([("u", [(0, 1)])], [let("v", (12, "u", 0)), ("rounds", 2, [more("v", (-1, "u", 0))]),
                                        ("balanced", "v", 1)])
        self.assertEqual([stretch(code, 1, width) for width in (1, 3, 4, 5)], [(12, 13), (9, 16), (5, 20), (0, 28)])
        code = Code([("u", [(-2, 3), (0, 1)])],
                    [let("v", (12, "u", 0)), ("rounds", 2, [more("v", (-1, "u", 0))]), ("balanced", "v", 2)])
        self.assertEqual([stretch(code, 1, width) for width in (1, 2, 3, 4)], [(12, 12), (12, 12), (11, 13), (10, 14)])

    def test_many_lines_that_bend(self):
        source = random.Random(35)
        for _ in range(300):
            starts, growths = ([source.randint(-9, 9) for _ in range(5)] for _ in range(2))
            # The lane is the sum of some of four lines start + n * growth, and of one more.
            inputs = [(name, [(0, 1)]) for name in "abcd"]
            terms = [(start, name, 0) for start, name in zip(starts, "abcd")]
            rounds = [(growth, name, 0) for growth, name in zip(growths, "abcd")]
            steps = [let("w", *terms, row=[starts[4]]), ("rounds", 2, [more("w", *rounds, row=[growths[4]])])]
            code = Code(inputs, [*steps, ("balanced", "w", 1)])
            for width in (2, 4, 5):
                told = []
                for count in range(60):
                    lines = [start + count * growth for start, growth in zip(starts, growths)]
                    low = lines[4] + sum(min(0, line) for line in lines[:4])
                    high = lines[4] + sum(max(0, line) for line in lines[:4])
                    told.append(-(2 ** width) <= 2 * low and 2 * high < 2 ** width)
                self.is_told(stretch(code, 1, width), told)

    def test_over_and_rest(self):
        for word in ("over", "rest"):
            code = growing([3], more("v", row=[2]), step=(word, "t", "v", [-1, 1]))
            self.assertEqual([stretch(code, 1, width) for width in (1, 2, 3, 9)], [None, None, (0, 1), (0, 253)])
            code = growing([3], more("v", row=[-2, 1]), step=(word, "t", "v", [0, 0, 1]))
            self.assertEqual([stretch(code, 1, width) for width in (1, 2, 3)], [(0, None), (0, 6), (0, 10)])
            for divisor, width in (([-4, 1], 2), ([-5, 1], 2), ([-2, 0, 1], 1)):
                found = stretch(growing([0], more("v", row=[1]), step=(word, "t", "v", divisor)), 1, width)
                self.assertEqual(found, (0, 1) if divisor == [-2, 0, 1] else None)
            self.assertIsNone(stretch(growing([], more("v"), step=(word, "t", "v", [-4, 1])), 1, 2))

    def test_places_before_and_other_rounds(self):
        steps = [let("v"), let("w"), ("rounds", 2, [more("v", row=[1])]), ("rounds", 5, [more("v", row=[2]), more("w")]),
                 ("read", "v", 1), ("rounds", 1, [more("w", row=[3]), more("v", (1, "u", 0))]), ("read", "w", 1)]
        code = Code([("u", [(0, 1)])], steps)
        self.assertEqual([stretch(code, number, 4) for number in (2, 4, 8)], [(0, 5), (0, 6), (0, 5)])
        self.assertEqual([stretch(code, number, 3) for number in (2, 4, 8)], [None, (0, 2), None])
        # A place before the rounds that spills spills for all numbers of rounds.
        self.assertIsNone(stretch(Code([], [let("v", row=[9]), ("read", "v", 1), ("rounds", 0, [more("v")])]), 2, 3))

    def test_numbers_of_any_size(self):
        code = growing([0], more("v", (1, "u", 0)))
        for width in (1, 64, 3999, 4000):
            self.assertEqual(stretch(code, 1, width), (0, (2 ** width - 1) // 3))
        code = growing([-LONG], more("v", row=[1]))
        self.assertEqual([stretch(code, 1, width) for width in (1, 4000)],
                         [(LONG, LONG + 1), (LONG, LONG + 2 ** 4000 - 1)])
        steps = [let("v", row=[-LONG]), let("v", (LONG, "v", 0)), ("rounds", 0, [more("v", row=[2])]), ("read", "v", 1)]
        self.assertEqual(stretch(Code([], steps), 2, 3), ((LONG * LONG + 1) // 2, (LONG * LONG + 7) // 2))

    def test_the_number_of_rounds_of_the_code_does_not_matter(self):
        for count in (0, 1, 7, LONG):
            code = growing([-9], more("v", (1, "u", 0), row=[1]), ranges=((0, 0),), count=count)
            self.assertEqual(stretch(code, 1, 3), (9, 16))
            self.assertEqual(code.steps[1][1], count)

    def test_kinds(self):
        found = stretch(growing([0], more("v", row=[1])), 1, 3)
        self.assertEqual((type(found), type(found[0]), type(found[1])), (tuple, int, int))

    def test_great_codes(self):
        ranges = [(-LONG, LONG)] * 8
        inputs = [(name, ranges) for name in "abcdef"]
        terms = [(LONG if at % 2 else -LONG, name, 3 * at) for at, name in enumerate("abcdef")]
        steps = [let("v", *terms, row=[LONG] * 24), ("rounds", 9, [more("v", *terms)])] + [("balanced", "v", 24)] * 16
        code = Code(inputs, steps)
        self.assertIsNone(stretch(code, 1, 1000))
        least, greatest = stretch(code, 1, 4000)
        self.assertEqual(least, 0)
        self.assertIsNone(clean(with_rounds(code, 1, greatest), 4000))
        self.assertIsNotNone(clean(with_rounds(code, 1, greatest + 1), 4000))


if __name__ == "__main__":
    plain.unittest.main()
