"""Boxes: the least and the greatest number that each input can be; and forms, sums of multiples of the inputs."""

from packedlanes.errors import EmptyRange, WrongLength
from packedlanes.lanes import added, negated


class Box:
    """For each input the least and the greatest number that it can be."""

    def __init__(self, ranges):
        self.ranges = told_ranges(ranges)

    def amount(self):
        """How many points the box has."""
        points = 1
        for least, greatest in self.ranges:
            points = points * (greatest - least + 1)
        return points

    def has(self, point):
        """Whether a point lies in the box; one of another length does not."""
        if len(point) != len(self.ranges):
            return False
        return all([least <= worth <= greatest for worth, (least, greatest) in zip(point, self.ranges)])


class Form:
    """A sum of multiples of the inputs and a number."""

    def __init__(self, numbers, base=0):
        self.numbers = tuple(numbers)
        self.base = base

    def __add__(self, other):
        _check_length(self, other.numbers)
        return Form(added(self.numbers, other.numbers), self.base + other.base)

    def __sub__(self, other):
        _check_length(self, other.numbers)
        return Form(added(self.numbers, negated(other.numbers)), self.base - other.base)

    def __eq__(self, other):
        return isinstance(other, Form) and self.numbers == other.numbers and self.base == other.base

    def times(self, number):
        return Form([worth * number for worth in self.numbers], self.base * number)

    def at(self, point):
        """The worth of the form at a point."""
        _check_length(self, point)
        return self.base + sum([number * worth for number, worth in zip(self.numbers, point)])

    def lowest_point(self, box):
        """The corner of a box with the least worth; inputs that do not matter are at their least."""
        _check_length(self, box.ranges)
        return _corner(negated(self.numbers), box.ranges)

    def highest_point(self, box):
        """The corner of a box with the greatest worth; inputs that do not matter are at their least."""
        _check_length(self, box.ranges)
        return _corner(self.numbers, box.ranges)

    def ends(self, box):
        """The least and the greatest worth in a box."""
        return self.at(self.lowest_point(box)), self.at(self.highest_point(box))

    def agrees(self, other, box):
        """None if two forms have the same worth in all of a box, otherwise a point at which they do not."""
        _check_length(self, other.numbers)
        _check_length(self, box.ranges)
        point = [least for least, _ in box.ranges]
        if self.at(point) != other.at(point):
            return tuple(point)
        for number, (least, greatest) in enumerate(box.ranges):
            if least < greatest and self.numbers[number] != other.numbers[number]:
                # They are the same at the point itself, so they differ when this one input moves.
                point[number] = greatest
                return tuple(point)
        return None


def told_ranges(ranges):
    """The ranges as a tuple of pairs, none of which is empty."""
    pairs = tuple([(least, greatest) for least, greatest in ranges])
    for number, (least, greatest) in enumerate(pairs):
        if greatest < least:
            raise EmptyRange(number)
    return pairs


def _check_length(form, told):
    if len(told) != len(form.numbers):
        raise WrongLength(len(form.numbers), len(told))


def _corner(numbers, ranges):
    """The corner with the greatest sum of these multiples; inputs that do not matter are at their least."""
    return tuple([greatest if number > 0 else least for number, (least, greatest) in zip(numbers, ranges)])
