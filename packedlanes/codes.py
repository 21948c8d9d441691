"""Codes: short programs over rows, checked when they are made."""

from packedlanes.errors import BadCode, NoName, TooGreat

# As many figures as an integer in a code may have.
MOST_FIGURES = 600
# The least number with more of them. Python does not write very long numbers, so figures are not counted.
_TOO_LONG = (10 ** 60) ** 10
_MOST_LETTERS = 12
_MOST_INPUTS = 6
_MOST_RANGES = 8
_MOST_STEPS = 20
_MOST_LANES = 24
_MOST_DIVIDING = 12
# How many entries each step has.
_ENTRIES = {"let": 4, "over": 4, "rest": 4, "read": 3, "balanced": 3, "rounds": 3}
_SETTING = ("let", "over", "rest")
# The two kinds of places.
DIVIDING = ("over", "rest")
READING = ("read", "balanced")


class Code:
    """A short program over rows."""

    def __init__(self, inputs, steps):
        self.inputs = _copied(inputs)
        self.steps = _copied(steps)
        self._lanes = _counted_lanes(self.inputs, self.steps)

    def __eq__(self, other):
        return isinstance(other, Code) and self.inputs == other.inputs and self.steps == other.steps

    def all_names(self):
        """All names, the inputs first and then the variables in the order in which they are first set."""
        return list(self._lanes)

    def lanes_of(self, name):
        """The number of lanes of a name at the end."""
        if name not in self._lanes:
            raise NoName(name)
        return self._lanes[name]

    def places(self):
        """The numbers of the over, rest, read and balanced steps."""
        return [number for number, step in numbered_steps(self.steps)
                if step[0] in DIVIDING or step[0] in READING]


def is_name(word):
    """Whether a word has the form of a name."""
    if not isinstance(word, str) or not 1 <= len(word) <= _MOST_LETTERS:
        return False
    return all(["a" <= letter <= "z" for letter in word])


def numbered_steps(steps):
    """Each step that is not inside of rounds, with its number; the lets inside of rounds are counted, too."""
    numbered = []
    number = 0
    for step in steps:
        numbered.append((number, step))
        number = number + 1
        if step[0] == "rounds":
            number = number + len(step[2])
    return numbered


def _copied(worth):
    """The same with a tuple for each list in it."""
    if isinstance(worth, (list, tuple)):
        return tuple([_copied(part) for part in worth])
    return worth


def _is_too_long(number):
    return abs(number) >= _TOO_LONG


def _counted_lanes(inputs, steps):
    """The number of lanes of each name at the end of a code, with the errors of what a code may not have."""
    if len(inputs) > _MOST_INPUTS:
        raise TooGreat()
    lanes = {}
    for name, ranges in inputs:
        _check_input(name, ranges, lanes)
        lanes[name] = len(ranges)
    given = list(lanes)
    number = 0
    for step in steps:
        _check_number(number)
        if not _is_right(step, given, lanes):
            raise BadCode(number)
        _count_step(step, lanes)
        number = number + 1
        if step[0] == "rounds":
            _count_lets(step[2], number, given, lanes)
            number = number + len(step[2])
    return lanes


def _check_input(name, ranges, lanes):
    if not is_name(name) or name in lanes:
        raise BadCode(None)
    if any([least > greatest for least, greatest in ranges]):
        raise BadCode(None)
    if len(ranges) > _MOST_RANGES or any([_is_too_long(end) for pair in ranges for end in pair]):
        raise TooGreat()


def _check_number(number):
    if number >= _MOST_STEPS:
        raise TooGreat()


def _count_lets(lets, first, given, lanes):
    """Takes the lets inside of rounds, the first of which has the number that is told."""
    names = [let[1] for let in lets if _is_let(let)]
    for place, let in enumerate(lets):
        _check_number(first + place)
        if not (_is_let(let) and _is_right(let, given, lanes) and _is_right_inside(let, names)):
            raise BadCode(first + place)
        if let[1] in [earlier[1] for earlier in lets[:place]]:
            raise BadCode(first + place)
        _count_step(let, lanes)


def _has_form(step):
    """Whether a step has a known word and as many entries as it asks for."""
    return len(step) > 0 and step[0] in _ENTRIES and len(step) == _ENTRIES[step[0]]


def _is_let(step):
    return _has_form(step) and step[0] == "let"


def _is_right(step, given, lanes):
    """Whether a step breaks none of the rules for all steps, apart from the limits."""
    if not _has_form(step):
        return False
    if step[0] == "let":
        return _may_be_set(step[1], given) and all([_is_right_term(term, lanes) for term in step[2]])
    if step[0] in DIVIDING:
        return _may_be_set(step[1], given) and step[2] in lanes and step[3][-1:] == (1,)
    if step[0] == "rounds":
        return step[1] >= 0
    return step[1] in lanes and step[2] >= 1


def _may_be_set(name, given):
    return is_name(name) and name not in given


def _is_right_term(term, lanes):
    return len(term) == 3 and term[1] in lanes and term[2] >= 0


def _is_right_inside(let, names):
    """Whether a right let may stand inside of rounds whose lets set these names."""
    # Since the first term uses the name that the let sets, it was set before.
    _, name, terms, _ = let
    return terms[:1] == ((1, name, 0),) and all([used not in names for _, used, _ in terms[1:]])


def _count_step(step, lanes):
    """Takes a right step: checks its limits, and counts the lanes of the name that it sets."""
    if _is_too_great(step):
        raise TooGreat()
    if step[0] in _SETTING:
        count = _lanes_set(step, lanes)
        if count > _MOST_LANES:
            raise TooGreat()
        lanes[step[1]] = count


def _is_too_great(step):
    if step[0] == "let":
        # A shift above the limit gives the name too many lanes, which are looked at behind this.
        return any([_is_too_long(told) for told in [number for number, _, _ in step[2]] + list(step[3])])
    if step[0] in DIVIDING:
        return len(step[3]) > _MOST_DIVIDING or any([_is_too_long(told) for told in step[3]])
    if step[0] == "rounds":
        return _is_too_long(step[1])
    return step[2] > _MOST_LANES


def _lanes_set(step, lanes):
    """How many lanes a let, over or rest step gives the name that it sets."""
    if step[0] == "let":
        return max([len(step[3])] + [lanes[name] + shift for _, name, shift in step[2]])
    if step[0] == "over":
        return max(0, lanes[step[2]] - len(step[3]) + 1)
    return min(lanes[step[2]], len(step[3]) - 1)
