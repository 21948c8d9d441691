"""For which numbers of rounds a code is clean for all of its inputs."""

from packedlanes.boxes import Form
from packedlanes.checking import digit_ends
from packedlanes.codes import DIVIDING, Code, numbered_steps
from packedlanes.errors import BadCount, NoRounds
from packedlanes.lanes import check_run_width, joined, negated
from packedlanes.places import places_of


def with_rounds(code, number, count):
    """A code with another number of rounds at the step with a number."""
    _check_rounds(code, number)
    if count < 0:
        raise BadCount(count)
    steps = [("rounds", count, step[2]) if at == number else step for at, step in numbered_steps(code.steps)]
    return Code(code.inputs, steps)


def stretch(code, number, width):
    """The least and the greatest number of rounds with which a code is clean for all inputs; None if there is none."""
    _check_rounds(code, number)
    check_run_width(width)
    # All that decides changes by the same with each round, so that two numbers of rounds tell all others.
    without, once = with_rounds(code, number, 0), with_rounds(code, number, 1)
    found = (0, None)
    for place, next_place in zip(places_of(without), places_of(once)):
        for bound, next_bound in zip(_bounds(place, width), _bounds(next_place, width)):
            found = _narrowed(found, bound, next_bound - bound, place.corners)
            if found is None:
                return None
    return found


def _check_rounds(code, number):
    if number not in [at for at, step in numbered_steps(code.steps) if step[0] == "rounds"]:
        raise NoRounds(number)


def _bounds(place, width):
    """Forms that are not below 0 at any corner exactly if the place is clean for all inputs."""
    if place.step[0] in DIVIDING:
        # If the number of the divisor is not greater than 0, nothing keeps both bounds.
        return _bounds_of(place.form_at(width), 0, joined(place.step[3], width) - 1)
    low, high = digit_ends(place.step[0], width)
    return [bound for lane in range(len(place.base)) for bound in _bounds_of(place.form_of(lane), low, high)]


def _bounds_of(form, low, high):
    return [Form(form.numbers, form.base - low), Form(negated(form.numbers), high - form.base)]


def _narrowed(found, bound, growth, corners):
    """The part of a stretch in which bound + n * growth is not below 0 at any corner; None if there is none.

    With n, the least worth of all corners bends down: the line of one corner is nowhere below it.
    """
    least = _raised(found, bound, growth, corners)
    if least is None:
        return None
    greatest = found[1]
    if greatest is None:
        greatest = _first_greatest(bound, growth, corners)
    while greatest is not None:
        start, slope = _line_at(greatest, bound, growth, corners)
        if start + slope * greatest >= 0:
            break
        # Since the line is not below 0 at the least number, it goes down.
        greatest = start // -slope
    return least, greatest


def _raised(found, bound, growth, corners):
    """The least number of a stretch with which bound + n * growth is not below 0 at any corner, or None."""
    least, greatest = found
    while greatest is None or least <= greatest:
        start, slope = _line_at(least, bound, growth, corners)
        if start + slope * least >= 0:
            return least
        if slope <= 0:
            return None
        least = -(start // slope)
    return None


def _first_greatest(bound, growth, corners):
    """The last number with which the last line of the least worth is not below 0; None if it does not go down."""
    # Beyond this number, each multiplier keeps its sign.
    far = 1 + max([0] + [abs(number) for number in bound.numbers])
    start, slope = _line_at(far, bound, growth, corners)
    return start // -slope if slope < 0 else None


def _line_at(count, bound, growth, corners):
    """The line on which the least worth of bound + n * growth is at a number: its worth at 0, and its slope."""
    corner = (bound + growth.times(count)).lowest_point(corners)
    return bound.at(corner), growth.at(corner)
