"""The words of the document as the slowest and plainest programs, to compare with."""

import itertools
import random
import unittest

from packedlanes.codes import Code


def rows_of(seed, count, lanes=6, most=40):
    """Some sequences of integers of both signs; zeros at the end may occur."""
    source = random.Random(seed)
    return [[source.randint(-most, most) for _ in range(source.randint(0, lanes))] for _ in range(count)]


def cut(entries):
    entries = list(entries)
    while entries and entries[-1] == 0:
        entries.pop()
    return tuple(entries)


def number(entries, width):
    return sum(entry * 2 ** (width * lane) for lane, entry in enumerate(entries))


def entry(entries, lane):
    return entries[lane] if lane < len(entries) else 0


def total(one, other, sign=1):
    lanes = range(max(len(one), len(other)))
    return cut([entry(one, lane) + sign * entry(other, lane) for lane in lanes])


def product(one, other):
    lanes = range(len(one) + len(other))
    return cut([sum(entry(one, low) * entry(other, lane - low) for low in range(lane + 1)) for lane in lanes])


def carry(entries, lane, width):
    return number(entries[:lane], width) // 2 ** (width * lane)


def digits(worth, width, count, least):
    told = []
    for _ in range(count):
        digit = (worth - least) % 2 ** width + least
        told.append(digit)
        worth = (worth - digit) // 2 ** width
    return tuple(told)


def shared_widths(one, other):
    """All widths up to the last at which two unlike rows can have the same number."""
    first = [worth for worth in total(one, other, -1) if worth != 0][0]
    return tuple(width for width in range(1, first.bit_length() + 1) if number(one, width) == number(other, width))


def divided(entries, divisor):
    """The quotient and the rest row by a row whose last entry is 1, one lane after the other."""
    left = list(entries)
    quotient = []
    while len(left) >= len(divisor):
        times = left[-1]
        quotient.insert(0, times)
        for lane, factor in enumerate(divisor):
            left[len(left) - len(divisor) + lane] -= times * factor
        left.pop()
    return cut(quotient), cut(left)


def numbered(steps):
    """Pairs of the number of a step and the step; rounds stand there as often as their lets are done."""
    told, at = [], 0
    for step in steps:
        told.append((at, step))
        at += 1
        if step[0] == "rounds":
            told += [(at + k, let) for _ in range(step[1]) for k, let in enumerate(step[2])]
            at += len(step[2])
    return told


def mixed(rows, terms, row):
    found = cut(row)
    for factor, name, shift in terms:
        found = total(found, [0] * shift + [factor * entry for entry in rows[name]])
    return found


class Followed:
    """A code executed step by step over rows and, up to where it stops, with integers of a width."""

    def __init__(self, code, width, given):
        self.width = width
        self.rows = {name: cut(given[name]) for name, _ in code.inputs}
        self.numbers = {name: number(given[name], width) for name, _ in code.inputs}
        self.reads, self.shown, self.stopped, self.spilled = [], [], None, None
        # For each place its number, its step and the row that decides whether it is clean.
        self.places = []
        for at, step in numbered(code.steps):
            if not self.follow(at, step) and self.spilled is None:
                self.spilled = at

    def follow(self, at, step):
        """Does one step; tells whether it is clean."""
        if step[0] == "let":
            _, name, terms, row = step
            self.rows[name] = mixed(self.rows, terms, row)
            if self.stopped is None:
                parts = [factor * self.numbers[used] * 2 ** (shift * self.width) for factor, used, shift in terms]
                self.numbers[name] = sum(parts) + number(row, self.width)
            return True
        if step[0] in ("over", "rest"):
            return self.divide(at, *step)
        return step[0] == "rounds" or self.read(at, *step)

    def divide(self, at, word, name, a, divisor):
        quotient, rest = divided(self.rows[a], divisor)
        self.rows[name] = quotient if word == "over" else rest
        self.places.append((at, (word, name, a, divisor), rest))
        by = number(divisor, self.width)
        if self.stopped is None and by <= 0:
            self.stopped = at
        if self.stopped is None:
            self.numbers[name] = self.numbers[a] // by if word == "over" else self.numbers[a] % by
        return self.stopped is None and self.numbers[name] == number(self.rows[name], self.width)

    def read(self, at, word, name, count):
        lanes = tuple(entry(self.rows[name], lane) for lane in range(count))
        self.reads.append(lanes)
        self.places.append((at, (word, name, count), lanes))
        if self.stopped is None:
            least = 0 if word == "read" else -(2 ** (self.width - 1))
            self.shown.append(digits(self.numbers[name], self.width, count, least))
        return self.stopped is None and self.shown[-1] == lanes


def inputs_of(code):
    """All inputs of a code, one by one."""
    lanes = [range(least, greatest + 1) for _, ranges in code.inputs for least, greatest in ranges]
    for point in itertools.product(*lanes):
        left = iter(point)
        yield {name: tuple(next(left) for _ in ranges) for name, ranges in code.inputs}


def clean(code, width):
    """None, or the number, lane, side and input of the first place that is not clean for some of all inputs."""
    followed = [(given, Followed(code, width, given)) for given in inputs_of(code)]
    numbers = [one.spilled for _, one in followed if one.spilled is not None]
    if not numbers:
        return None
    at = [number_of_place for number_of_place, _, _ in followed[0][1].places].index(min(numbers))
    step = followed[0][1].places[at][1]
    rows = [(one.places[at][2], given) for given, one in followed]
    if step[0] in ("over", "rest"):
        by = number(step[3], width)
        if by <= 0:
            return min(numbers), None, "divisor", {name: tuple(low for low, _ in ranges) for name, ranges in code.inputs}
        found = fault([(number(row, width), given) for row, given in rows], 0, by - 1)
        return (min(numbers), None, *found)
    least = 0 if step[0] == "read" else -(2 ** (width - 1))
    for lane in range(step[2]):
        found = fault([(row[lane], given) for row, given in rows], least, least + 2 ** width - 1)
        if found is not None:
            return (min(numbers), lane, *found)
    raise AssertionError("a place that is not clean has no fault")


def fault(worths, low, high):
    """The side and the input of the worths that are not from low to high, below first, or None."""
    for side, end in (("below", min(worth for worth, _ in worths)), ("above", max(worth for worth, _ in worths))):
        if end < low if side == "below" else end > high:
            ends = [given for worth, given in worths if worth == end]
            # Lanes that do not matter are at their least in one of these inputs, together with all others.
            return side, {name: tuple(map(min, zip(*(given[name] for given in ends)))) for name in ends[0]}
    return None


class CodeSource:
    """Small codes with all kinds of steps, the same ones for the same seed."""

    def __init__(self, seed, most=3, lanes=3):
        self.source = random.Random(seed)
        self.most = most
        self.lanes = lanes

    def number(self):
        return self.source.randint(-self.most, self.most)

    def row(self, most):
        return [self.number() for _ in range(self.source.randint(0, most))]

    def divisor(self):
        return self.source.choice([[1], [0, 1], [0, 0, 1], [-1, 1], [1, 1], self.row(2) + [1], self.row(2) + [1]])

    def terms(self, names):
        count = self.source.randint(0, 3) if names else 0
        return [(self.number(), self.source.choice(names), self.source.randint(0, 2)) for _ in range(count)]

    def rounds(self, names, variables):
        source = self.source
        changed = source.sample(variables, source.randint(0, min(2, len(variables))))
        others = [name for name in names if name not in changed]
        lets = [("let", name, [(1, name, 0)] + self.terms(others), self.row(2)) for name in changed]
        return ("rounds", source.choice((0, 1, 2, 3)), lets)

    def step(self, names, variables):
        source = self.source
        word = source.choice(["let", "let", "over", "rest", "read", "balanced", "rounds"] if names else ["let"])
        if word == "let":
            return word, source.choice("vwxy"), self.terms(names), self.row(3)
        if word == "rounds":
            return self.rounds(names, variables)
        if word in ("over", "rest"):
            return word, source.choice("vwxy"), source.choice(names), self.divisor()
        return word, source.choice(names), source.randint(1, 3)

    def code(self):
        source = self.source
        inputs, left = [], source.randint(0, self.lanes)
        for name in "abc"[:source.randint(0, 3)]:
            count = source.randint(0, left)
            left -= count
            lows = [self.number() for _ in range(count)]
            inputs.append((name, [(low, low + source.randint(0, 2)) for low in lows]))
        steps, names, variables = [], [name for name, _ in inputs], []
        for _ in range(source.randint(0, 7)):
            step = self.step(names, variables)
            steps.append(step)
            if step[0] in ("let", "over", "rest") and step[1] not in names:
                names.append(step[1])
                variables.append(step[1])
        return Code(inputs, steps)


def codes_of(seed, count, most=3, lanes=3):
    source = CodeSource(seed, most, lanes)
    return [source.code() for _ in range(count)]


class Case(unittest.TestCase):
    def refused(self, error, attribute, worth, action, *arguments):
        """The action raises the error, and the error has this attribute."""
        with self.assertRaises(error) as caught:
            action(*arguments)
        self.assertEqual(getattr(caught.exception, attribute), worth)
