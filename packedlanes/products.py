"""Products of rows whose entries are any numbers in told ranges."""

from packedlanes.boxes import Box, Form, told_ranges
from packedlanes.errors import NegativeRange, TooManyLanes
from packedlanes.lanes import check_lanes, check_width, joined, product
from packedlanes.rows import Row

# All choices of ends of so many ranges are looked at, one by one.
_MOST_CHOSEN = 10


class ProductWidth:
    """The least width at which a product is read right, and what spoils it at the width below."""

    def __init__(self, width, lane, spoiling):
        self.width = width
        self.lane = lane
        self.spoiling = spoiling


class CutEnds:
    """The least and the greatest number of the first lanes of a product, each with two rows that give it."""

    def __init__(self, low_end, high_end, low_rows, high_rows):
        self.low_end = low_end
        self.high_end = high_end
        self.low_rows = low_rows
        self.high_rows = high_rows


def lane_ends(one, other):
    """The least and the greatest worth of each lane of the product of two rows with ranges."""
    return _ends_of_lanes(told_ranges(one), told_ranges(other))


def least_width(one, other):
    """The least width at which all lanes of the product are read right with digits from 0 up."""
    first, second = told_ranges(one), told_ranges(other)
    ends = _ends_of_lanes(first, second)
    for lane, (least, _) in enumerate(ends):
        if least < 0:
            return ProductWidth(None, lane, _rows_at_end(first, second, lane, -1))
    needs = [(greatest.bit_length(), lane, 1) for lane, (_, greatest) in enumerate(ends)]
    return _widest_need(first, second, needs)


def balanced_width(one, other):
    """The least width at which all lanes of the product are read right with balanced digits."""
    first, second = told_ranges(one), told_ranges(other)
    ends = _ends_of_lanes(first, second)
    needs = [(_balanced_bits(least), lane, -1) for lane, (least, _) in enumerate(ends)]
    more = [(_balanced_bits(greatest), lane, 1) for lane, (_, greatest) in enumerate(ends)]
    return _widest_need(first, second, needs + more)


def cut_ends(one, other, lanes, width):
    """The ends of the number of the first lanes of the product at a width."""
    first, second = told_ranges(one), told_ranges(other)
    check_lanes(lanes)
    check_width(width)
    if min(len(first), len(second)) > _MOST_CHOSEN:
        raise TooManyLanes(min(len(first), len(second)))
    count = min(lanes, len(first) + len(second))
    if len(first) <= len(second):
        return _cut_ends(first, second, count, width)
    ends = _cut_ends(second, first, count, width)
    return CutEnds(ends.low_end, ends.high_end, ends.low_rows[::-1], ends.high_rows[::-1])


def power_ends(ranges, exponent):
    """The least and the greatest worth of each lane of a power of a row whose ranges do not go below 0."""
    pairs = told_ranges(ranges)
    check_lanes(exponent)
    for number, (least, _) in enumerate(pairs):
        if least < 0:
            raise NegativeRange(number)
    lows = Row(_lows(pairs)).power(exponent)
    highs = Row(_highs(pairs)).power(exponent)
    return tuple([(lows.entry(lane), worth) for lane, worth in enumerate(highs.entries)])


def _lows(pairs):
    return [least for least, _ in pairs]


def _highs(pairs):
    return [greatest for _, greatest in pairs]


def _ends_of_lanes(first, second):
    if len(first) == 0 or len(second) == 0:
        return ()
    if min(_lows(first)) >= 0 and min(_lows(second)) >= 0:
        # The product of the least numbers and that of the greatest are faster than all pairs of ranges.
        return tuple(zip(product(_lows(first), _lows(second)), product(_highs(first), _highs(second))))
    lows = [0 for _ in range(len(first) + len(second) - 1)]
    highs = list(lows)
    for lane, (low, high) in enumerate(first):
        for place, (least, greatest) in enumerate(second, start=lane):
            products = (low * least, low * greatest, high * least, high * greatest)
            lows[place] = lows[place] + min(products)
            highs[place] = highs[place] + max(products)
    return tuple(zip(lows, highs))


def _balanced_bits(worth):
    """The least width at which a number is a balanced digit."""
    return (-worth - 1 if worth < 0 else worth).bit_length() + 1


def _widest_need(first, second, needs):
    """The greatest of the widths that are needed, each told with its lane and the sign of its end."""
    width, lane, sign = max([(1, 0, 0)] + needs, key=lambda need: need[0])
    if width == 1:
        return ProductWidth(1, None, None)
    return ProductWidth(width, lane, _rows_at_end(first, second, lane, sign))


def _rows_at_end(first, second, lane, sign):
    """Two rows with the least worth (sign -1) or the greatest (sign 1) of a lane of their product."""
    one, other = _lows(first), _lows(second)
    for low in range(max(0, lane - len(second) + 1), min(lane + 1, len(first))):
        one[low], other[lane - low] = _best_pair(first[low], second[lane - low], sign)
    return tuple(one), tuple(other)


def _best_pair(pair, against, sign):
    """The ends of two ranges with the least product (sign -1) or the greatest (sign 1)."""
    corners = [(worth, factor) for worth in pair for factor in against]
    return max(corners, key=lambda corner: sign * corner[0] * corner[1])


def _cut_ends(short, long, lanes, width):
    """As cut_ends; the short list is not longer than the other one."""
    parts = _parts(short[:lanes], long, lanes, width)
    lowest = highest = None
    for choice in _choices(short[:lanes]):
        # For these ends in one row, the number is a form in the other one.
        least, greatest = Form(_numbers_of_starts(choice, width)[1:]).ends(parts)
        if lowest is None or least < lowest[0]:
            lowest = (least, choice)
        if highest is None or greatest > highest[0]:
            highest = (greatest, choice)
    low_rows = _rows_of_choice(lowest[1], short, long, lanes, width, -1)
    high_rows = _rows_of_choice(highest[1], short, long, lanes, width, 1)
    return CutEnds(lowest[0], highest[0], low_rows, high_rows)


def _choices(pairs):
    """All choices of one end of each range."""
    choices = [()]
    for least, greatest in pairs:
        ends = (least,) if least == greatest else (least, greatest)
        choices = [choice + (end,) for choice in choices for end in ends]
    return choices


def _numbers_of_starts(choice, width):
    """The numbers of the first entries of a row: of none, of one, and so on."""
    numbers = [0]
    for lane, worth in enumerate(choice):
        numbers.append(numbers[-1] + (worth << (lane * width)))
    return numbers


def _parts(short, long, lanes, width):
    """The box of what the first entry of a short row, the first two, .. and all of them are multiplied by.

    All lanes of the long row that meet the whole short row are one part, so that there are only a few of them.
    """
    whole = lanes - len(short) + 1
    parts = [_part(long, lane, lane + 1, width) for lane in reversed(range(whole, lanes))]
    if len(short) > 0:
        parts.append(_part(long, 0, whole, width))
    return Box(parts)


def _part(pairs, start, stop, width):
    cut = pairs[start:stop]
    return joined(_lows(cut), width) << (start * width), joined(_highs(cut), width) << (start * width)


def _rows_of_choice(choice, short, long, lanes, width, sign):
    """The two rows for a choice of ends: each end of the long list follows from the sign of what it meets."""
    starts = _numbers_of_starts(choice, width)
    multipliers = [sign * starts[max(0, min(lanes - lane, len(choice)))] for lane in range(len(long))]
    return choice + tuple(_lows(short[len(choice):])), Form(multipliers).highest_point(Box(long))
