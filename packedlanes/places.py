"""The lanes of all inputs of a code as one point of a box, and what decides at each place whether it is clean."""

from packedlanes.boxes import Box, Form
from packedlanes.codes import DIVIDING, READING, numbered_steps
from packedlanes.lanes import added, joined, negated, quotient_and_rest, stripped
from packedlanes.runs import first_lanes, input_rows, lanes_meant, set_rows


class Place:
    """An over, rest, read or balanced step with the row that decides whether it is clean.

    This is the row of the lanes that are read, or the rest row. Each entry of it is a form in the lanes of the inputs,
    told by its worth where all of these are at their least (base) and by what each adds where it is at its greatest
    (moves). So a corner is told by a 0 or a 1 for each lane of the inputs, and all corners are the points of a box.
    """

    def __init__(self, number, step, rows):
        self.number = number
        self.step = step
        self.base = rows[0]
        self.moves = [added(row, negated(rows[0])) for row in rows[1:]]
        self.corners = Box([(0, 1) for _ in self.moves])
        # The least and the greatest worth of each lane.
        self.spans = [self.form_of(lane).ends(self.corners) for lane in range(len(self.base))]

    def form_of(self, lane):
        """The entry of a lane as a form in the corners."""
        return Form([move[lane] for move in self.moves], self.base[lane])

    def form_at(self, width):
        """The number of the row at a width as a form in the corners."""
        return Form([joined(move, width) for move in self.moves], joined(self.base, width))


def given_of(code, point):
    """The input for a point, which holds the lanes of one input behind those of the other."""
    given = {}
    start = 0
    for name, ranges in code.inputs:
        given[name] = tuple(point[start:start + len(ranges)])
        start = start + len(ranges)
    return given


def box_of(code):
    """The box of the lanes of all inputs."""
    return Box([pair for _, ranges in code.inputs for pair in ranges])


def given_at(code, corner):
    """The input at a corner."""
    return given_of(code, [pair[end] for pair, end in zip(box_of(code).ranges, corner)])


def chief_corners(code):
    """The corner where all lanes of the inputs are at their least, and those where one of them is at its greatest.

    What a form is at these tells what it is everywhere.
    """
    lanes = list(range(len(box_of(code).ranges)))
    return [[1 if lane == raised else 0 for lane in lanes] for raised in [None] + lanes]


def places_of(code):
    """The places of a code, in their order; each is worked out only when the ones before it were looked at."""
    told = [input_rows(code, given_at(code, corner)) for corner in chief_corners(code)]
    for number, step in numbered_steps(code.steps):
        if step[0] in READING:
            yield Place(number, step, [lanes_meant(step, rows) for rows in told])
        elif step[0] in DIVIDING:
            pairs = [quotient_and_rest(rows[step[2]], step[3]) for rows in told]
            for rows, (times, left) in zip(told, pairs):
                rows[step[1]] = stripped(times if step[0] == "over" else left)
            yield Place(number, step, [first_lanes(left, len(step[3]) - 1) for _, left in pairs])
        else:
            for rows in told:
                set_rows(step, rows)
