"""Whether a code is clean for all of its inputs at a width, and what spoils it otherwise."""

from packedlanes.codes import DIVIDING
from packedlanes.lanes import check_run_width, joined
from packedlanes.places import given_at, places_of


class Spill:
    """The first place that is not clean for some input: its number, the lane, the side, and such an input."""

    def __init__(self, number, lane, side, given):
        self.number = number
        self.lane = lane
        self.side = side
        self.given = {name: tuple(given[name]) for name in given}

    def __eq__(self, other):
        return (isinstance(other, Spill) and self.number == other.number and self.lane == other.lane
                and self.side == other.side and self.given == other.given)


def clean(code, width):
    """None if a code is clean for all inputs at a width, otherwise the Spill."""
    check_run_width(width)
    for place in places_of(code):
        fault = fault_at(place, width)
        if fault is not None:
            return spill_of(code, place, width, fault)
    return None


def fault_at(place, width):
    """The lane and the side at which a place is not clean for some input; None if there is none.

    All places before it are clean.
    """
    if place.step[0] in DIVIDING:
        return _fault_of_rest(place, width)
    return _fault_of_lanes(place, width)


def spill_of(code, place, width, fault):
    lane, side = fault
    return Spill(place.number, lane, side, given_at(code, _corner_of(place, width, lane, side)))


def digit_ends(word, width):
    """The least and the greatest digit that a read or a balanced step tells."""
    if word == "read":
        return 0, (1 << width) - 1
    return -(1 << (width - 1)), (1 << (width - 1)) - 1


def _fault_of_lanes(place, width):
    low, high = digit_ends(place.step[0], width)
    for lane, (least, greatest) in enumerate(place.spans):
        if least < low:
            return lane, "below"
        if greatest > high:
            return lane, "above"
    return None


def _fault_of_rest(place, width):
    divisor = joined(place.step[3], width)
    if divisor <= 0:
        return None, "divisor"
    # Most often the ends of all lanes tell enough, which are found much faster than those of the number.
    if (joined([low for low, _ in place.spans], width) >= 0
            and joined([high for _, high in place.spans], width) < divisor):
        return None
    least, greatest = place.form_at(width).ends(place.corners)
    if least < 0:
        return None, "below"
    if greatest >= divisor:
        return None, "above"
    return None


def _corner_of(place, width, lane, side):
    """The corner at which a fault is the greatest; for a divisor, where all lanes are at their least."""
    if side == "divisor":
        return [least for least, _ in place.corners.ranges]
    form = place.form_at(width) if lane is None else place.form_of(lane)
    return form.lowest_point(place.corners) if side == "below" else form.highest_point(place.corners)
