"""Codes executed over rows, which is what is meant, and with one integer for each name, which is run."""

from packedlanes.codes import DIVIDING, READING, numbered_steps
from packedlanes.errors import BadInput
from packedlanes.lanes import added, balanced_digits, check_run_width, divided, joined, plain_digits
from packedlanes.lanes import quotient, rest_row, stripped


class Meaning:
    """The rows at the end and the lanes that are read, when a code is executed over rows."""

    def __init__(self, rows, reads):
        self.rows = dict(rows)
        self.reads = list(reads)


class Run:
    """The integers at the end, the lanes that are read, and the step before which a run ended, or None."""

    def __init__(self, numbers, reads, stopped):
        self.numbers = dict(numbers)
        self.reads = list(reads)
        self.stopped = stopped


def meaning(code, given):
    """Executes a code over rows."""
    _check_given(code, given)
    rows = input_rows(code, given)
    reads = []
    for step in code.steps:
        if step[0] in READING:
            reads.append(lanes_meant(step, rows))
        else:
            set_rows(step, rows)
    return Meaning(rows, reads)


def run(code, width, given):
    """Executes a code with one integer for each name."""
    check_run_width(width)
    _check_given(code, given)
    numbers = _input_numbers(code, width, given)
    reads = []
    for number, step in numbered_steps(code.steps):
        if _stops(step, width):
            return Run(numbers, reads, number)
        if step[0] in READING:
            reads.append(_lanes_run(step, width, numbers))
        else:
            _set_numbers(step, width, numbers)
    return Run(numbers, reads, None)


def spilled(code, width, given):
    """The number of the first place at which a run does not tell what is meant, or None."""
    check_run_width(width)
    _check_given(code, given)
    rows = input_rows(code, given)
    numbers = _input_numbers(code, width, given)
    for number, step in numbered_steps(code.steps):
        if _stops(step, width):
            return number
        if step[0] in READING:
            if lanes_meant(step, rows) != _lanes_run(step, width, numbers):
                return number
        else:
            set_rows(step, rows)
            _set_numbers(step, width, numbers)
            # Before the first place that is not clean, a let is the same with packs as over rows.
            if step[0] in DIVIDING and numbers[step[1]] != joined(rows[step[1]], width):
                return number
    return None


def _check_given(code, given):
    for name, ranges in code.inputs:
        told = given.get(name)
        if told is None or len(told) != len(ranges):
            raise BadInput(name)
        if not all([least <= worth <= greatest for worth, (least, greatest) in zip(told, ranges)]):
            raise BadInput(name)


def input_rows(code, given):
    return {name: stripped(given[name]) for name, _ in code.inputs}


def _input_numbers(code, width, given):
    return {name: joined(given[name], width) for name, _ in code.inputs}


def first_lanes(row, count):
    """The first lanes of a row, as many as are told."""
    return tuple(row[:count]) + (0,) * (count - len(row))


def lanes_meant(step, rows):
    """The lanes that a read or balanced step tells of the row that is meant."""
    _, name, count = step
    return first_lanes(rows[name], count)


def _lanes_run(step, width, numbers):
    word, name, count = step
    digits = plain_digits if word == "read" else balanced_digits
    return tuple(digits(numbers[name], width, count))


def _stops(step, width):
    """Whether a run ends before a step, since the pack of its divisor is not greater than 0."""
    return step[0] in DIVIDING and joined(step[3], width) <= 0


def set_rows(step, rows):
    """Does to the rows what a let, over, rest or rounds step says."""
    if step[0] in DIVIDING:
        divide = quotient if step[0] == "over" else rest_row
        rows[step[1]] = stripped(divide(rows[step[2]], step[3]))
    else:
        for _, name, terms, row in _lets_of(step):
            rows[name] = mixed_row(rows, terms, row)


def _set_numbers(step, width, numbers):
    """Does to the integers what a let, over, rest or rounds step says."""
    if step[0] in DIVIDING:
        times, left = divided(numbers[step[2]], joined(step[3], width))
        numbers[step[1]] = times if step[0] == "over" else left
    else:
        for _, name, terms, row in _lets_of(step):
            numbers[name] = mixed_number(numbers, width, terms, row)


def _lets_of(step):
    """The lets that a let or a rounds step comes to: n times a let adds n times its other terms and its row."""
    if step[0] == "let":
        return [step]
    _, count, lets = step
    return [_let_of_rounds(count, name, terms, row) for _, name, terms, row in lets]


def _let_of_rounds(count, name, terms, row):
    more = [(count * number, used, shift) for number, used, shift in terms[1:]]
    return "let", name, [terms[0]] + more, [count * worth for worth in row]


def mixed_row(rows, terms, row):
    """The sum of the terms and of a row, over rows."""
    mixed = row
    for number, name, shift in terms:
        # A row without entries stays as it is, by however many lanes it is shifted.
        if len(rows[name]) > 0:
            mixed = added(mixed, [0] * shift + [number * worth for worth in rows[name]])
    return stripped(mixed)


def mixed_number(numbers, width, terms, row):
    """The sum of the terms and of a row, with one integer for each name."""
    return joined(row, width) + sum([(number * numbers[name]) << (shift * width) for number, name, shift in terms])
