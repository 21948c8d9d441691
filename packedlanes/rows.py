"""Rows: finite sequences of integers, added, subtracted and multiplied as polynomials."""

from packedlanes.errors import NotMonic
from packedlanes.lanes import added, check_lanes, check_width, joined, negated, product, quotient, rest_row, stripped


class Row:
    """A finite sequence of integers without zeros at its end."""

    def __init__(self, entries=()):
        self.entries = stripped(entries)

    @property
    def size(self):
        return len(self.entries)

    def entry(self, lane):
        check_lanes(lane)
        return self.entries[lane] if lane < len(self.entries) else 0

    def __add__(self, other):
        return Row(added(self.entries, other.entries))

    def __sub__(self, other):
        return Row(added(self.entries, negated(other.entries)))

    def __mul__(self, other):
        return Row(product(self.entries, other.entries))

    def __floordiv__(self, other):
        _check_monic(other)
        return Row(quotient(self.entries, other.entries))

    def __mod__(self, other):
        _check_monic(other)
        return Row(rest_row(self.entries, other.entries))

    def __eq__(self, other):
        return isinstance(other, Row) and self.entries == other.entries

    def times(self, number):
        return Row([worth * number for worth in self.entries])

    def power(self, exponent):
        check_lanes(exponent)
        reached = Row((1,))
        for bit in reversed(range(exponent.bit_length())):
            reached = reached * reached
            if (exponent >> bit) & 1:
                reached = reached * self
        return reached

    def up(self, lanes):
        check_lanes(lanes)
        # The row without entries stays as it is, by however many lanes.
        return Row((0,) * lanes + self.entries) if self.entries else Row()

    def down(self, lanes):
        check_lanes(lanes)
        return Row(self.entries[lanes:])

    def low(self, lanes):
        check_lanes(lanes)
        return Row(self.entries[:lanes])

    def at(self, width):
        """The number of the row at a width."""
        check_width(width)
        return joined(self.entries, width)

    def carry(self, lanes, width):
        """The carry into a lane, without the great number of the lanes below it."""
        check_lanes(lanes)
        check_width(width)
        carried = 0
        for worth in self.entries[:lanes]:
            carried = (worth + carried) >> width
        return carried >> (width * max(0, lanes - len(self.entries)))


def _check_monic(row):
    if len(row.entries) == 0 or row.entries[-1] != 1:
        raise NotMonic(row)


def same_widths(one, other):
    """The widths at which two rows have the same number, ascending; None for equal rows."""
    entries = (one - other).entries
    if len(entries) == 0:
        return None
    return tuple([width for width in _possible_widths(entries) if _is_zero_at(entries, width)])


def _possible_widths(entries):
    """The widths, ascending, at which two lanes or more share the least power of 2 in their worth.

    At any other width the worth of one lane is divided by fewer 2s than all others, so the number is not 0.
    """
    edge = _lower_edge(entries)
    widths = []
    for (lane, twos), (next_lane, next_twos) in zip(edge[:-1], edge[1:]):
        width, over = divmod(twos - next_twos, next_lane - lane)
        if width >= 1 and over == 0:
            widths.append(width)
    return widths[::-1]


def _lower_edge(entries):
    """The lower convex edge of the points (lane, how often 2 divides its entry), without those on straight lines."""
    edge = []
    for lane, worth in enumerate(entries):
        if worth != 0:
            point = (lane, (worth & -worth).bit_length() - 1)
            while len(edge) > 1 and not _turns_up(edge[-2], edge[-1], point):
                edge.pop()
            edge.append(point)
    return edge


def _turns_up(first, middle, last):
    rise = (middle[1] - first[1]) * (last[0] - middle[0])
    return rise < (last[1] - middle[1]) * (middle[0] - first[0])


def _is_zero_at(entries, width):
    """Whether the number of the entries is 0, lane by lane: each carry is exact, and the last one is 0."""
    carried = 0
    for worth in entries:
        reached = carried + worth
        carried = reached >> width
        if carried << width != reached:
            return False
    return carried == 0
