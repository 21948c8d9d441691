"""Codes as texts: one line for each input and for each step."""

from packedlanes.codes import DIVIDING, MOST_FIGURES, READING, Code, is_name
from packedlanes.errors import BadText

_INDENT = "  "


def written(code):
    """The text of a code."""
    lines = [_line_of_input(name, ranges) for name, ranges in code.inputs]
    for step in code.steps:
        lines.append(_line_of(step))
        if step[0] == "rounds":
            lines.extend([_INDENT + _line_of(let) for let in step[2]])
    return "\n".join(lines)


def _line_of_input(name, ranges):
    return " ".join(["given", name] + [f"{least}..{greatest}" for least, greatest in ranges])


def _line_of(step):
    if step[0] == "let":
        terms = [f"{number}*{name}<<{shift}" for number, name, shift in step[2]]
        return " ".join(["let", step[1]] + terms + ["|"] + _integers(step[3]))
    if step[0] in DIVIDING:
        return " ".join([step[0], step[1], step[2], "|"] + _integers(step[3]))
    if step[0] == "rounds":
        return f"rounds {step[1]}"
    return f"{step[0]} {step[1]} {step[2]}"


def _integers(row):
    return [str(worth) for worth in row]


def read_code(text):
    """The code of a text."""
    inputs = []
    steps = []
    # The list that the lets of an indented line go into; None where no such line may stand.
    lets = None
    # The empty text has no lines, but split tells one.
    lines = text.split("\n") if text else []
    for number, line in enumerate(lines, start=1):
        if line.startswith(_INDENT):
            _check(lets is not None, number)
            lets.append(_read_let(line[len(_INDENT):].split(" "), number))
        elif line.split(" ")[0] == "given":
            _check(len(steps) == 0, number)
            inputs.append(_read_input(line.split(" "), number))
        else:
            steps.append(_read_step(line.split(" "), number))
            lets = steps[-1][2] if steps[-1][0] == "rounds" else None
    return Code(inputs, steps)


def _check(holds, line):
    if not holds:
        raise BadText(line)


def _read_input(words, line):
    _check(len(words) > 1, line)
    return _name(words[1], line), [_range_of(word, line) for word in words[2:]]


def _read_step(words, line):
    if words[0] == "let":
        return _read_let(words, line)
    if words[0] in DIVIDING:
        _check(words[3:4] == ["|"], line)
        return words[0], _name(words[1], line), _name(words[2], line), _row(words[4:], line)
    if words[0] in READING:
        _check(len(words) == 3, line)
        return words[0], _name(words[1], line), _integer(words[2], line)
    _check(words[0] == "rounds" and len(words) == 2, line)
    return "rounds", _integer(words[1], line), []


def _read_let(words, line):
    _check(words[0] == "let" and "|" in words, line)
    bar = words.index("|")
    terms = [_term(word, line) for word in words[2:bar]]
    return "let", _name(words[1], line), terms, _row(words[bar + 1:], line)


def _row(words, line):
    return [_integer(word, line) for word in words]


def _range_of(word, line):
    least, _, greatest = word.partition("..")
    return _integer(least, line), _integer(greatest, line)


def _term(word, line):
    number, _, more = word.partition("*")
    name, _, shift = more.partition("<<")
    return _integer(number, line), _name(name, line), _integer(shift, line)


def _name(word, line):
    _check(is_name(word), line)
    return word


def _integer(word, line):
    _check(_is_integer(word), line)
    return int(word)


def _is_integer(word):
    figures = word[1:] if word.startswith("-") else word
    if len(figures) == 0 or len(figures) > MOST_FIGURES:
        return False
    if figures[0] == "0":
        return word == "0"
    return all([figure in "0123456789" for figure in figures])
