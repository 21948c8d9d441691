"""Packs: numbers with a width, each of which stands for rows."""

from packedlanes.errors import BadWidth, Negative, NotPositive, OtherWidth
from packedlanes.lanes import balanced_digits, balanced_size, check_lanes, check_width
from packedlanes.lanes import divided, plain_digits, plain_size
from packedlanes.rows import Row


class Pack:
    """A number with a width."""

    def __init__(self, width, number):
        check_width(width)
        self.width = width
        self.number = number

    def __add__(self, other):
        _check_same_width(self, other)
        return Pack(self.width, self.number + other.number)

    def __sub__(self, other):
        _check_same_width(self, other)
        return Pack(self.width, self.number - other.number)

    def __mul__(self, other):
        _check_same_width(self, other)
        return Pack(self.width, self.number * other.number)

    def __eq__(self, other):
        return isinstance(other, Pack) and self.width == other.width and self.number == other.number

    def times(self, number):
        return Pack(self.width, self.number * number)

    def up(self, lanes):
        check_lanes(lanes)
        return Pack(self.width, self.number << (lanes * self.width))

    def down(self, lanes):
        check_lanes(lanes)
        return Pack(self.width, self.number >> (lanes * self.width))

    def over(self, row):
        return Pack(self.width, _divided_by_row(self, row)[0])

    def rest(self, row):
        return Pack(self.width, _divided_by_row(self, row)[1])

    def digits(self, count):
        """The first digits, from 0 up."""
        check_lanes(count)
        return tuple(plain_digits(self.number, self.width, count))

    def balanced(self, count):
        """The first balanced digits."""
        check_lanes(count)
        return tuple(balanced_digits(self.number, self.width, count))

    def plain_row(self):
        """The row of all digits from 0 up."""
        if self.number < 0:
            raise Negative(self.number)
        return Row(self.digits(plain_size(self.number, self.width)))

    def balanced_row(self):
        """The row of all balanced digits."""
        # At the width 1 no number above 0 has one.
        if self.width == 1:
            raise BadWidth(1)
        return Row(self.balanced(balanced_size(self.number, self.width)))


def _check_same_width(one, other):
    if one.width != other.width:
        raise OtherWidth(other.width)


def _divided_by_row(pack, row):
    divisor = row.at(pack.width)
    if divisor < 1:
        raise NotPositive(divisor)
    return divided(pack.number, divisor)


def packed(row, width):
    """The pack of a row."""
    return Pack(width, row.at(width))
