"""Benches: named rows that are worked with by hand, each with the integer that a run has for it."""

from packedlanes.codes import is_name
from packedlanes.errors import BadName, NoName, NothingToUndo, NotMonic, NotPositive
from packedlanes.lanes import balanced_digits, check_run_width, divided, joined, plain_digits
from packedlanes.lanes import quotient, rest_row, stripped
from packedlanes.rows import Row
from packedlanes.runs import mixed_number, mixed_row


class Bench:
    """Named rows at a width, with the deeds that were done."""

    def __init__(self, width):
        check_run_width(width)
        self.width = width
        # The row and the integer of each name.
        self._held = {}
        # Each deed is a pair of what it changed, as it was before and as it is after it.
        self._done = []
        self._undone = []

    def put(self, name, row):
        """Sets a name to a row and its pack."""
        _check_name(name)
        told = stripped(row)
        self._do(self.width, {name: (told, joined(told, self.width))})

    def mix(self, name, terms, row):
        """Sets a name to the sum of terms and a row, as a let step does."""
        _check_name(name)
        rows = {used: self.row_of(used) for _, used, _ in terms}
        numbers = {used: self.number_of(used) for _, used, _ in terms}
        self._do(self.width, {name: (mixed_row(rows, terms, row), mixed_number(numbers, self.width, terms, row))})

    def over(self, name, a, divisor):
        """Sets a name to the quotient of a by a row."""
        row, number, pack = self._told_to_divide(name, a, divisor)
        self._do(self.width, {name: (stripped(quotient(row, divisor)), divided(number, pack)[0])})

    def rest(self, name, a, divisor):
        """Sets a name to the rest of a by a row."""
        row, number, pack = self._told_to_divide(name, a, divisor)
        self._do(self.width, {name: (stripped(rest_row(row, divisor)), divided(number, pack)[1])})

    def widen(self, width):
        """Changes the width, and sets each integer to the pack of its row."""
        check_run_width(width)
        self._do(width, {name: (self._held[name][0], joined(self._held[name][0], width)) for name in self._held})

    def undo(self):
        """Takes back the last deed that was done."""
        if len(self._done) == 0:
            raise NothingToUndo()
        before, after = self._done.pop()
        self._undone.append((before, after))
        self._take(before)

    def redo(self):
        """Does the last deed again that was taken back."""
        if len(self._undone) == 0:
            raise NothingToUndo()
        before, after = self._undone.pop()
        self._done.append((before, after))
        self._take(after)

    def all_names(self):
        """All names in the order in which they were first set."""
        return list(self._held)

    def row_of(self, name):
        return self._held_by(name)[0]

    def number_of(self, name):
        return self._held_by(name)[1]

    def shown(self, name, n):
        """The first n digits of the integer, from 0 up."""
        return tuple(plain_digits(self.number_of(name), self.width, n))

    def shown_balanced(self, name, n):
        """The first n digits of the integer, balanced."""
        return tuple(balanced_digits(self.number_of(name), self.width, n))

    def apart(self, name):
        """Whether the integer is not the pack of the row."""
        row, number = self._held_by(name)
        return number != joined(row, self.width)

    def carry(self, name, lane):
        """The carry of the row into a lane."""
        return Row(self.row_of(name)).carry(lane, self.width)

    def hidden(self, name):
        """The lanes of the row that are not shown as they are in it."""
        row = self.row_of(name)
        shown = self.shown(name, len(row))
        return tuple([lane for lane, worth in enumerate(row) if shown[lane] != worth])

    def least_width(self, name):
        """The least width at which all lanes of the row are shown, or None if one is negative."""
        row = self.row_of(name)
        if any([worth < 0 for worth in row]):
            return None
        return max([1] + [worth.bit_length() for worth in row])

    def _held_by(self, name):
        if name not in self._held:
            raise NoName(name)
        return self._held[name]

    def _told_to_divide(self, name, a, divisor):
        """The row and the integer of a, and the pack of the divisor, when all of them may be used."""
        _check_name(name)
        row, number = self._held_by(a)
        if len(divisor) == 0 or divisor[-1] != 1:
            raise NotMonic(tuple(divisor))
        pack = joined(divisor, self.width)
        if pack <= 0:
            raise NotPositive(pack)
        return row, number, pack

    def _do(self, width, held):
        """Does a deed: changes the width, and what some names hold."""
        before = (self.width, {name: self._held.get(name) for name in held})
        self._done.append((before, (width, held)))
        self._undone = []
        self._take((width, held))

    def _take(self, state):
        width, held = state
        self.width = width
        for name in held:
            # A name that is set for the first time held nothing before.
            if held[name] is None:
                del self._held[name]
            else:
                self._held[name] = held[name]


def _check_name(name):
    if not is_name(name):
        raise BadName(name)
