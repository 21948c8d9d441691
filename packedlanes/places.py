"""The lanes of all inputs of a code as one point, and the box of these points."""

from packedlanes.boxes import Box


def given_of(code, point):
    """The input for a point, which holds the lanes of one input behind those of the other."""
    given = {}
    start = 0
    for name, ranges in code.inputs:
        given[name] = tuple(point[start:start + len(ranges)])
        start = start + len(ranges)
    return given


def box_of(code):
    """The box of the lanes of all inputs."""
    return Box([pair for _, ranges in code.inputs for pair in ranges])
