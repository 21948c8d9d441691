"""The errors of the package. No message shows a value: values may have no text, or too many figures for one."""


class LanesError(ValueError):
    """The base class of all errors of the package."""


class BadWidth(LanesError):
    """Raised for a width that is less than it can be."""

    def __init__(self, width):
        super().__init__("a width that is less than it can be")
        self.width = width


class BadLanes(LanesError):
    """Raised for a number of lanes, a lane or an exponent below 0."""

    def __init__(self, lanes):
        super().__init__("a number of lanes, a lane or an exponent below 0")
        self.lanes = lanes


class NotMonic(LanesError):
    """Raised for a divisor whose last entry is not 1."""

    def __init__(self, row):
        super().__init__("a divisor whose last entry is not 1")
        self.row = row


class OtherWidth(LanesError):
    """Raised for a pack of another width."""

    def __init__(self, width):
        super().__init__("a pack of another width")
        self.width = width


class NotPositive(LanesError):
    """Raised for a divisor whose number is less than 1."""

    def __init__(self, number):
        super().__init__("a divisor whose number is less than 1")
        self.number = number


class Negative(LanesError):
    """Raised for a number below 0."""

    def __init__(self, number):
        super().__init__("a number below 0")
        self.number = number


class EmptyRange(LanesError):
    """Raised for a range whose greatest number is below its least."""

    def __init__(self, number):
        super().__init__("a range whose greatest number is below its least")
        self.number = number


class NegativeRange(LanesError):
    """Raised for a range that goes below 0."""

    def __init__(self, number):
        super().__init__("a range that goes below 0")
        self.number = number


class TooManyLanes(LanesError):
    """Raised for more lanes than are looked at."""

    def __init__(self, lanes):
        super().__init__("more lanes than are looked at")
        self.lanes = lanes


class WrongLength(LanesError):
    """Raised for another length than is wanted."""

    def __init__(self, wanted, length):
        super().__init__("another length than is wanted")
        self.wanted = wanted
        self.length = length


class BadCode(LanesError):
    """Raised for a code with a malformed input or step."""

    def __init__(self, number):
        super().__init__("a code with a malformed input or step")
        self.number = number


class BadText(LanesError):
    """Raised for a text with a malformed line."""

    def __init__(self, line):
        super().__init__("a text with a malformed line")
        self.line = line


class TooGreat(LanesError):
    """Raised for more than the limit."""

    def __init__(self):
        super().__init__("more than the limit")


class BadInput(LanesError):
    """Raised for an input that is missing or does not fit."""

    def __init__(self, name):
        super().__init__("an input that is missing or does not fit")
        self.name = name


class BadName(LanesError):
    """Raised for a malformed name."""

    def __init__(self, name):
        super().__init__("a malformed name")
        self.name = name


class NoName(LanesError):
    """Raised for a name that is not there."""

    def __init__(self, name):
        super().__init__("a name that is not there")
        self.name = name


class NoDigit(LanesError):
    """Raised for a number that is no digit."""

    def __init__(self, worth):
        super().__init__("a number that is no digit")
        self.worth = worth


class NoLane(LanesError):
    """Raised for a lane that is not there."""

    def __init__(self, lane):
        super().__init__("a lane that is not there")
        self.lane = lane


class UnlikeLanes(LanesError):
    """Raised for lanes of another width or another number of lanes."""

    def __init__(self):
        super().__init__("lanes of another width or another number of lanes")


class NothingToUndo(LanesError):
    """Raised for no deed to take back or to do again."""

    def __init__(self):
        super().__init__("no deed to take back or to do again")


class BadCount(LanesError):
    """Raised for a number of rounds below 0."""

    def __init__(self, count):
        super().__init__("a number of rounds below 0")
        self.count = count


class NoRounds(LanesError):
    """Raised for a step that is no rounds step."""

    def __init__(self, number):
        super().__init__("a step that is no rounds step")
        self.number = number


class OtherInputs(LanesError):
    """Raised for codes whose inputs are not the same."""

    def __init__(self):
        super().__init__("codes whose inputs are not the same")


class OtherReads(LanesError):
    """Raised for codes whose reads are not of as many lanes."""

    def __init__(self, number):
        super().__init__("codes whose reads are not of as many lanes")
        self.number = number
