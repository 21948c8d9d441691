"""What the other files share: sequences of entries, and the one number that holds them."""

from packedlanes.errors import BadLanes, BadWidth, TooGreat

# The greatest width of runs, of benches and of all that is asked of codes.
MOST_WIDTH = 4000
# Up to so many words, Python multiplies two numbers digit by digit.
_SHORT_WORDS = 70
# With so few entries in a divisor, dividing lane by lane is the fastest.
_FEW_ENTRIES = 40
# Below so many bits, Python's own division is the fastest.
_SHORT_BITS = 10000


def check_lanes(lanes):
    if lanes < 0:
        raise BadLanes(lanes)


def check_width(width):
    if width < 1:
        raise BadWidth(width)


def check_run_width(width):
    check_width(width)
    if width > MOST_WIDTH:
        raise TooGreat()


def stripped(entries):
    """The entries as a tuple, without the zeros at its end."""
    told = tuple(entries)
    size = len(told)
    while size > 0 and told[size - 1] == 0:
        size = size - 1
    return told[:size]


def added(one, other):
    sums = [first + second for first, second in zip(one, other)]
    return sums + list(one[len(other):]) + list(other[len(one):])


def negated(entries):
    return [-worth for worth in entries]


def joined(entries, width):
    """The number of the entries at a width."""
    if len(entries) == 0:
        return 0
    # Neighbours are joined in pairs: one lane after the other would copy the whole number for each.
    parts = list(entries)
    bits = width
    while len(parts) > 1:
        if len(parts) & 1:
            parts.append(0)
        parts = [low + (high << bits) for low, high in zip(parts[::2], parts[1::2])]
        bits = bits + bits
    return parts[0]


def cut_in_two(number, bits):
    """The rest of a number by 2 ** bits, and what stands above these bits."""
    above = number >> bits
    # A mask of so many bits would need their memory even for a small number.
    return number - (above << bits), above


def plain_digits(number, width, count):
    """The first digits of a number, from 0 up, as a list."""
    if count == 0:
        return []
    lanes = 1
    while lanes < count:
        lanes = lanes + lanes
    parts = [cut_in_two(number, lanes * width)[0]]
    while lanes > 1:
        lanes = lanes // 2
        parts = [half for part in parts for half in cut_in_two(part, lanes * width)]
    return parts[:count]


def plain_size(number, width):
    """In how many lanes a number that is not below 0 has digits from 0 up."""
    return (number.bit_length() + width - 1) // width


def balanced_size(number, width):
    """A number of lanes, at a width of at least 2, beyond which all balanced digits are 0."""
    return (number.bit_length() + 1) // width + 1


def balanced_digits(number, width, count):
    """The first balanced digits of a number, as a list."""
    if number.bit_length() < width:
        # The number is its own first digit; 2 ** width itself may be beyond memory.
        return ([number] + [0] * (count - 1))[:count]
    # At the width 1 the digits of a number above 0 never end.
    used = count if width == 1 else min(count, balanced_size(number, width))
    half = 1 << (width - 1)
    moved = number + joined([half] * used, width)
    digits = [digit - half for digit in plain_digits(moved, width, used)]
    return digits + [0] * (count - used)


def _words(number):
    return number.bit_length() // 30 + 1


def _greatest_bits(entries):
    return max([worth.bit_length() for worth in entries])


def _product_width(one, other):
    """A width at which the entries of the product are balanced digits."""
    pairs = min(len(one), len(other))
    return _greatest_bits(one) + _greatest_bits(other) + pairs.bit_length() + 1


def _product_steps(one, other):
    """About how many steps Python needs for the product of two numbers of so many words."""
    size = min(one, other)
    times = max(one, other) // size + 1
    while size > _SHORT_WORDS:
        size = (size + 1) // 2
        times = 3 * times
    return times * size * size


def _packing_pays(one, other):
    """Whether two rows are multiplied faster as two numbers than pair by pair.

    It does not pay if most entries are 0 or if a few are much longer than the others.
    """
    first = [_words(worth) for worth in one if worth != 0]
    second = [_words(worth) for worth in other if worth != 0]
    by_pairs = 60 * len(first) * len(second) + sum(first) * sum(second)
    packing = 700 * (len(one) + len(other))
    if by_pairs <= packing:
        return False
    width = _product_width(one, other)
    words = [len(entries) * width // 30 + 1 for entries in (one, other)]
    return by_pairs > packing + _product_steps(words[0], words[1])


def _product_by_pairs(one, other):
    second = [(lane, worth) for lane, worth in enumerate(other) if worth != 0]
    sums = [0 for _ in range(len(one) + len(other))]
    for low, factor in enumerate(one):
        if factor != 0:
            for high, worth in second:
                sums[low + high] = sums[low + high] + factor * worth
    return sums[:-1]


def product(one, other):
    """The product of two rows as a list, one shorter than both together (empty if one is)."""
    if len(one) == 0 or len(other) == 0:
        return []
    if not _packing_pays(one, other):
        return _product_by_pairs(one, other)
    width = _product_width(one, other)
    number = joined(one, width) * joined(other, width)
    return balanced_digits(number, width, len(one) + len(other) - 1)


def _quotient_by_lanes(entries, divisor):
    top = len(divisor) - 1
    below = [(lane, worth) for lane, worth in enumerate(divisor[:top]) if worth != 0]
    left = list(entries)
    for low in reversed(range(len(entries) - top)):
        times = left[low + top]
        if times != 0:
            for lane, worth in below:
                left[low + lane] = left[low + lane] - times * worth
    return left[top:]


def quotient(entries, divisor):
    """The quotient, as a list, of a row by one whose last entry is 1."""
    count = len(entries) - len(divisor) + 1
    if count <= 0:
        return []
    # The quotient depends on that many of the highest entries of both only.
    cut = max(0, len(divisor) - count)
    upper = entries[cut:]
    lead = divisor[cut:]
    if len([worth for worth in lead if worth != 0]) <= _FEW_ENTRIES:
        return _quotient_by_lanes(upper, lead)
    # By halves, so that most of the work is done in great products.
    half = count // 2
    high = quotient(upper[half:], lead)
    left = added(upper[half:], negated(product(high, lead)))
    low = quotient(list(upper[:half]) + left[:len(left) - len(high)], lead)
    return low + high


def quotient_and_rest(entries, divisor):
    """The quotient and the rest row, as lists, of a row by one whose last entry is 1."""
    times = quotient(entries, divisor)
    taken = product(times, divisor)
    return times, added(entries, negated(taken))[:len(divisor) - 1]


def rest_row(entries, divisor):
    return quotient_and_rest(entries, divisor)[1]


def divided(number, divisor):
    """The quotient of two numbers, rounded down, and the rest; the divisor is above 0."""
    size = divisor.bit_length()
    count = number.bit_length() - size
    if min(count, size) <= _SHORT_BITS:
        return divmod(number, divisor)
    # Python 3.11 needs as many steps as the product of both lengths, so long numbers are divided by halves.
    if count < size - 1:
        return _divided_by_top(number, divisor, size - 1 - count)
    half = count // 2
    low, above = cut_in_two(number, half)
    high, left = divided(above, divisor)
    times, left = divided((left << half) + low, divisor)
    return (high << half) + times, left


def _divided_by_top(number, divisor, bits):
    """As divided; the quotient by what stands above these bits is off by a few at the most."""
    low, above = cut_in_two(number, bits)
    divisor_low, divisor_above = cut_in_two(divisor, bits)
    times, left = divided(above, divisor_above)
    more, left = divmod((left << bits) + low - times * divisor_low, divisor)
    return times + more, left
