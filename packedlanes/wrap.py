"""Lanes that wrap: many lanes of some bits in one integer, each reckoned with modulo 2 ** width."""

from packedlanes.errors import NoDigit, NoLane, TooGreat, UnlikeLanes
from packedlanes.lanes import check_lanes, check_width, joined, plain_digits

_MOST_BITS = 64
_MOST_MANY = 64


class WrapLanes:
    """Many lanes of some bits in one integer."""

    def __init__(self, width, many, number):
        _check_size(width, many)
        _check_digit(number, width * many)
        self.width = width
        self.many = many
        self.number = number

    @staticmethod
    def of(width, row):
        """The lanes with these digits."""
        _check_size(width, len(row))
        for worth in row:
            _check_digit(worth, width)
        return WrapLanes(width, len(row), joined(row, width))

    def digits(self):
        return tuple(_lanes_of(self))

    def __len__(self):
        return len(list(range(self.many)))

    def __getitem__(self, at):
        _check_lane(at, self.many)
        return _lanes_of(self)[at]

    def __setitem__(self, at, worth):
        _check_lane(at, self.many)
        _check_digit(worth, self.width)
        self.number = self.number + ((worth - self[at]) << (at * self.width))

    def __contains__(self, x):
        return x in _lanes_of(self)

    def __iter__(self):
        raise TypeError("lanes are not iterated over; digits() tells them all")

    def __eq__(self, other):
        return (isinstance(other, WrapLanes) and self.width == other.width and self.many == other.many
                and self.number == other.number)

    def __add__(self, other):
        return _wrapped(self, [mine + more for mine, more in _paired(self, other)])

    def __sub__(self, other):
        return _wrapped(self, [mine - more for mine, more in _paired(self, other)])

    def __mul__(self, other):
        if isinstance(other, WrapLanes):
            return _wrapped(self, [mine * more for mine, more in _paired(self, other)])
        return _wrapped(self, [lane * other for lane in _lanes_of(self)])

    def __rmul__(self, other):
        return _wrapped(self, [other * lane for lane in _lanes_of(self)])

    def __and__(self, other):
        return _wrapped(self, [mine & more for mine, more in _paired(self, other)])

    def __or__(self, other):
        return _wrapped(self, [mine | more for mine, more in _paired(self, other)])

    def __xor__(self, other):
        return _wrapped(self, [mine ^ more for mine, more in _paired(self, other)])

    def __neg__(self):
        return _wrapped(self, [-lane for lane in _lanes_of(self)])

    def __invert__(self):
        return _wrapped(self, [~lane for lane in _lanes_of(self)])

    def __lshift__(self, other):
        # By the width or more, nothing is left; a lane shifted by more could be beyond memory.
        return _wrapped(self, [lane << min(other, self.width) for lane in _lanes_of(self)])

    def __rshift__(self, other):
        return _wrapped(self, [lane >> min(other, self.width) for lane in _lanes_of(self)])

    def below(self, other):
        """1 where the lane is less than that of the other one, otherwise 0."""
        return _wrapped(self, [1 if mine < more else 0 for mine, more in _paired(self, other)])

    def least(self, other):
        return _wrapped(self, [min(mine, more) for mine, more in _paired(self, other)])

    def greatest(self, other):
        return _wrapped(self, [max(mine, more) for mine, more in _paired(self, other)])

    def distance(self, other):
        """The greater of two lanes less the lesser."""
        return _wrapped(self, [abs(mine - more) for mine, more in _paired(self, other)])

    def average(self, other):
        """Half of the sum of two lanes, rounded down."""
        return _wrapped(self, [(mine + more) // 2 for mine, more in _paired(self, other)])

    def saturated(self, other):
        """The sum of two lanes, but at most the greatest digit."""
        return _wrapped(self, [min(mine + more, _mask(self.width)) for mine, more in _paired(self, other)])

    def chosen(self, mask, other):
        """The lane where that of the mask is not 0, otherwise that of the other one."""
        kept = [more != 0 for _, more in _paired(self, mask)]
        pairs = _paired(self, other)
        return _wrapped(self, [mine if keep else more for keep, (mine, more) in zip(kept, pairs)])

    def zeros(self):
        """1 where the lane is 0, otherwise 0."""
        return _wrapped(self, [1 if lane == 0 else 0 for lane in _lanes_of(self)])

    def ones(self):
        """The number of bits 1 of each lane."""
        return _wrapped(self, [f"{lane:b}".count("1") for lane in _lanes_of(self)])

    def turned(self):
        """The lanes in the other order."""
        return _wrapped(self, _lanes_of(self)[::-1])

    def total(self):
        """The sum of all lanes."""
        return sum(_lanes_of(self))

    def halves(self):
        """The lanes 0, 2, 4, .. and the lanes 1, 3, 5, .., each with twice the width."""
        lanes = _lanes_of(self)
        return WrapLanes.of(2 * self.width, lanes[::2]), WrapLanes.of(2 * self.width, lanes[1::2])


def _check_size(width, many):
    check_width(width)
    if width > _MOST_BITS:
        raise TooGreat()
    check_lanes(many)
    if many > _MOST_MANY:
        raise TooGreat()


def _mask(width):
    return (1 << width) - 1


def _check_digit(worth, width):
    if not 0 <= worth <= _mask(width):
        raise NoDigit(worth)


def _check_lane(lane, many):
    if not 0 <= lane < many:
        raise NoLane(lane)


def _lanes_of(wrap):
    return plain_digits(wrap.number, wrap.width, wrap.many)


def _paired(one, other):
    """The lanes of two objects, in pairs."""
    if one.width != other.width or one.many != other.many:
        raise UnlikeLanes()
    return list(zip(_lanes_of(one), _lanes_of(other)))


def _wrapped(like, worths):
    """New lanes like the told ones, with these worths modulo 2 ** width."""
    mask = _mask(like.width)
    return WrapLanes(like.width, like.many, joined([worth & mask for worth in worths], like.width))
