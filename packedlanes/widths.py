"""The widths at which a code is clean for all of its inputs."""

from packedlanes.checking import fault_at, spill_of
from packedlanes.codes import DIVIDING
from packedlanes.lanes import MOST_WIDTH, check_run_width
from packedlanes.places import places_of


class Widths:
    """The clean widths below a start, and whether all widths from the start on are clean, or none."""

    def __init__(self, some, start, always):
        self.some = tuple(some)
        self.start = start
        self.always = always

    def has(self, width):
        """Whether a width is clean."""
        check_run_width(width)
        return self.always if width >= self.start else width in self.some


class Least:
    """The least clean width, and the spills of all lesser ones."""

    def __init__(self, width, spills):
        self.width = width
        self.spills = tuple(spills)


def serves(code):
    """The widths at which a code is clean for all inputs."""
    faults = _faults_of(code)
    always = MOST_WIDTH not in faults
    start = MOST_WIDTH
    while start > 1 and (start - 1 not in faults) == always:
        start = start - 1
    return Widths([width for width in range(1, start) if width not in faults], start, always)


def least(code):
    """The least width at which a code is clean for all inputs."""
    faults = _faults_of(code)
    for width in range(1, MOST_WIDTH + 1):
        if width not in faults:
            return Least(width, [spill_of(code, faults[lesser][0], lesser, faults[lesser][1])
                                 for lesser in range(1, width)])
    return Least(None, [])


def _faults_of(code):
    """For each width that is not clean, the place that spills and its fault."""
    faults = {}
    left = list(range(1, MOST_WIDTH + 1))
    for place in places_of(code):
        told = _faults_of_place(place, left)
        for width in told:
            faults[width] = (place, told[width])
        left = [width for width in left if width not in told]
        if len(left) == 0:
            break
    return faults


def _faults_of_place(place, widths):
    """The faults of a place at those of the told widths at which it has one."""
    steady = min(_steady_width_of(place), MOST_WIDTH)
    always = fault_at(place, steady)
    faults = {width: always if width >= steady else fault_at(place, width) for width in widths}
    return {width: faults[width] for width in faults if faults[width] is not None}


def _steady_width_of(place):
    """A width from which on the fault of a place stays the same."""
    if place.step[0] in DIVIDING:
        return _steady_width_of_rest(place)
    # Above it, each worth of a lane is a balanced digit.
    return 1 + max([worth.bit_length() for pair in place.spans for worth in pair])


def _steady_width_of_rest(place):
    """From this width on, each number that decides has the sign of the last entry of its row that is not 0.

    For it is a row with entries below 2 ** width: a move, the divisor, a sum of moves and of the row at their least,
    or the divisor less such a sum and less 1.
    """
    bounds = [1 + abs(worth) for worth in place.step[3]]
    for lane, low in enumerate(place.base):
        bounds[lane] = bounds[lane] + abs(low) + sum([abs(move[lane]) for move in place.moves])
    return max(bounds).bit_length()
