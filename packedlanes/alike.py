"""Whether two codes read the same for all inputs."""

from packedlanes.codes import READING
from packedlanes.errors import OtherInputs, OtherReads
from packedlanes.places import chief_corners, given_at
from packedlanes.runs import meaning


class Unlike:
    """The first read and its first lane that are not the same in two codes for some input, and such an input."""

    def __init__(self, read, lane, given):
        self.read = read
        self.lane = lane
        self.given = {name: tuple(given[name]) for name in given}


def alike(one, other):
    """None if two codes read the same, otherwise what they do not read the same."""
    if one.inputs != other.inputs:
        raise OtherInputs()
    _check_reads(_counts(one), _counts(other))
    first = None
    for corner in chief_corners(one):
        given = given_at(one, corner)
        told = _first_difference(meaning(one, given).reads, meaning(other, given).reads)
        if told is not None and (first is None or told < (first.read, first.lane)):
            first = Unlike(told[0], told[1], given)
    return first


def _counts(code):
    """How many lanes each read and balanced step of a code tells."""
    return [step[2] for step in code.steps if step[0] in READING]


def _check_reads(counts, others):
    for read in range(max(len(counts), len(others))):
        if counts[read:read + 1] != others[read:read + 1]:
            raise OtherReads(read)


def _first_difference(reads, others):
    """The read and the lane, each from 0, that are the first not to be the same; None if there is none."""
    for read, (lanes, other_lanes) in enumerate(zip(reads, others)):
        for lane, (worth, other) in enumerate(zip(lanes, other_lanes)):
            if worth != other:
                return read, lane
    return None
