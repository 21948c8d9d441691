"""The words of the document as the slowest and plainest programs, to compare with."""

import random
import unittest


def rows_of(seed, count, lanes=6, most=40):
    """Some sequences of integers of both signs; zeros at the end may occur."""
    source = random.Random(seed)
    return [[source.randint(-most, most) for _ in range(source.randint(0, lanes))] for _ in range(count)]


def cut(entries):
    entries = list(entries)
    while entries and entries[-1] == 0:
        entries.pop()
    return tuple(entries)


def number(entries, width):
    return sum(entry * 2 ** (width * lane) for lane, entry in enumerate(entries))


def entry(entries, lane):
    return entries[lane] if lane < len(entries) else 0


def total(one, other, sign=1):
    lanes = range(max(len(one), len(other)))
    return cut([entry(one, lane) + sign * entry(other, lane) for lane in lanes])


def product(one, other):
    lanes = range(len(one) + len(other))
    return cut([sum(entry(one, low) * entry(other, lane - low) for low in range(lane + 1)) for lane in lanes])


def carry(entries, lane, width):
    return number(entries[:lane], width) // 2 ** (width * lane)


def digits(worth, width, count, least):
    told = []
    for _ in range(count):
        digit = (worth - least) % 2 ** width + least
        told.append(digit)
        worth = (worth - digit) // 2 ** width
    return tuple(told)


def shared_widths(one, other):
    """All widths up to the last at which two unlike rows can have the same number."""
    first = [worth for worth in total(one, other, -1) if worth != 0][0]
    return tuple(width for width in range(1, first.bit_length() + 1) if number(one, width) == number(other, width))


class Case(unittest.TestCase):
    def refused(self, error, attribute, worth, action, *arguments):
        """The action raises the error, and the error has this attribute."""
        with self.assertRaises(error) as caught:
            action(*arguments)
        self.assertEqual(getattr(caught.exception, attribute), worth)
