"""The widths at which a code is clean for all of its inputs."""

from packedlanes.checking import fault_at, spill_of
from packedlanes.codes import DIVIDING
from packedlanes.lanes import MOST_WIDTH, check_run_width
from packedlanes.places import places_of


class Widths:
    """The clean widths below a start, and whether all widths from the start on are clean, or none."""

    def __init__(self, some, start, always):
        self.some = tuple(some)
        self.start = start
        self.always = always

    def has(self, width):
        """Whether a width is clean."""
        check_run_width(width)
        return self.always if width >= self.start else width in self.some


class Least:
    """The least clean width, and the spills of all lesser ones."""

    def __init__(self, width, spills):
        self.width = width
        self.spills = tuple(spills)


class Faults:
    """What the places that were looked at tell of all widths: each one below an edge, and those from the edge on.

    From the edge on, all widths are alike, so they are looked at as one.
    """

    def __init__(self):
        self.edge = 1
        # Whether the widths from the edge on are clean.
        self.always = True
        # The clean widths below the edge, ascending; and for each other one the place that spills and its fault.
        self.some = []
        self.spoiled = {}

    def look_at(self, place):
        """Takes the next place into account."""
        steady = min(_steady_width_of(place), MOST_WIDTH)
        if self.always and self.edge < steady:
            self.some = self.some + list(range(self.edge, steady))
            self.edge = steady
        steady_fault = fault_at(place, steady)
        for width in self.some:
            fault = steady_fault if width >= steady else fault_at(place, width)
            if fault is not None:
                self.spoiled[width] = (place, fault)
        self.some = [width for width in self.some if width not in self.spoiled]
        self.always = self.always and steady_fault is None


def serves(code):
    """The widths at which a code is clean for all inputs."""
    faults = _faults_of(code)
    start = faults.edge
    while start > 1 and (start - 1 not in faults.spoiled) == faults.always:
        start = start - 1
    return Widths([width for width in faults.some if width < start], start, faults.always)


def least(code):
    """The least width at which a code is clean for all inputs."""
    faults = _faults_of(code)
    served = faults.some + [faults.edge] if faults.always else faults.some
    if len(served) == 0:
        return Least(None, [])
    told = [(width, faults.spoiled[width]) for width in range(1, served[0])]
    return Least(served[0], [spill_of(code, place, width, fault) for width, (place, fault) in told])


def _faults_of(code):
    """The faults of all places; those behind one from which on no width is clean are not looked at."""
    faults = Faults()
    for place in places_of(code):
        faults.look_at(place)
        if not faults.always and len(faults.some) == 0:
            break
    return faults


def _steady_width_of(place):
    """A width from which on the fault of a place stays the same."""
    if place.step[0] in DIVIDING:
        return _steady_width_of_rest(place)
    # Above it, each worth of a lane is a balanced digit.
    return 1 + max([worth.bit_length() for pair in place.spans for worth in pair])


def _steady_width_of_rest(place):
    """From this width on, each number that decides has the sign of the last entry of its row that is not 0.

    For it is a row with entries below 2 ** width: a move, the divisor, a sum of moves and of the row at their least,
    or the divisor less such a sum and less 1.
    """
    bounds = [1 + abs(worth) for worth in place.step[3]]
    for lane, low in enumerate(place.base):
        bounds[lane] = bounds[lane] + abs(low) + sum([abs(move[lane]) for move in place.moves])
    return max(bounds).bit_length()
