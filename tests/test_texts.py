"""Points 20 and 21: codes as texts."""

import random
import re
import unittest

import plain
from packedlanes.codes import Code
from packedlanes.errors import BadCode, BadText, TooGreat
from packedlanes.texts import read_code, written

LONG = 10 ** 600 - 1
TEXTS = [
    "",
    "given a 0..9 -3..5",
    "given a",
    "given given -3..-3 0..0\ngiven let 0..1",
    "let v |",
    "let v | 0",
    "let v | -1 0 12",
    "given a 0..9 -3..5\nlet v 3*a<<2 -1*a<<0 | 1 0 2\nread v 5",
    "given a 0..9\nlet v 0*a<<23 |\nover t v | 0 0 1\nrest t v | -1 1\nread t 24\nbalanced v 1",
    "let v |\nrounds 10\n  let v 1*v<<0 | 1\nread v 1",
    "let v |\nrounds 0",
    "let v |\nrounds 0\nrounds 7\n  let v 1*v<<0 |\nrounds 2\n  let v 1*v<<0 | 0 0",
    "given b 1..2\nlet v |\nlet w |\nrounds 3\n  let v 1*v<<0 2*b<<1 |\n  let w 1*w<<0 | 4\nlet v |",
    f"given a -{LONG}..{LONG}\nlet v -{LONG}*a<<0 | {LONG}\nrounds {LONG}",
    "let abcdefghijkl | 1\nread abcdefghijkl 1",
    "let rounds |\nlet read 1*rounds<<0 |\nread read 1\nover over read | 1",
]
INTEGER = "(?:0|-?[1-9][0-9]{0,599})"
NAME = "[a-z]{1,12}"
LET = f"let {NAME}(?: {INTEGER}\\*{NAME}<<{INTEGER})* \\|(?: {INTEGER})*"
STEP = f"(?:{LET}|(?:over|rest) {NAME} {NAME} \\|(?: {INTEGER})*|(?:read|balanced) {NAME} {INTEGER}|rounds {INTEGER})"
GIVEN = f"given {NAME}(?: {INTEGER}\\.\\.{INTEGER})*"


def first_wrong_line(text):
    """The number of the first line that has not the form that it must have, or None."""
    before = "given"
    for number, line in enumerate(text.split("\n") if text else [], start=1):
        if before == "given" and re.fullmatch(GIVEN, line):
            continue
        if before == "rounds" and re.fullmatch("  " + LET, line):
            continue
        if not re.fullmatch(STEP, line):
            return number
        before = "rounds" if line.startswith("rounds") else "step"
    return None


def changed(source, text):
    """The text with a piece of it left out, put in again elsewhere, or replaced."""
    start = source.randint(0, len(text))
    piece = text[start:start + source.randint(0, 4)]
    if source.random() < 0.3:
        lines = text.split("\n")
        lines.insert(source.randint(0, len(lines)), lines.pop(source.randrange(len(lines))))
        return "\n".join(lines)
    new = source.choice(["", " ", "  ", "\n", "0", "-", "1", "|", "a", "v", "..", "*", "<<", "let", "\n  ", piece * 2])
    return text[:start] + new + text[start + len(piece):]


class TextsTest(plain.Case):
    def bad(self, line, text):
        self.refused(BadText, "line", line, read_code, text)

    def test_example(self):
        steps = [("let", "v", [(1, "a", 0), (1, "b", 0)], []), ("read", "v", 2), ("rest", "s", "v", [-1, 1]),
                 ("read", "s", 1)]
        pair = Code([("a", [(0, 9), (0, 9)]), ("b", [(0, 9), (0, 9)])], steps)
        self.assertEqual(written(pair), "given a 0..9 0..9\ngiven b 0..9 0..9\nlet v 1*a<<0 1*b<<0 |\nread v 2\n"
                                        "rest s v | -1 1\nread s 1")
        self.assertTrue(read_code(written(pair)) == pair)

    def test_written(self):
        inputs = [("a", [(0, 9), (-3, 5)]), ("b", [])]
        steps = [("let", "v", [(3, "a", 2), (-1, "b", 0)], [1, 0, 2]), ("let", "w", [], []), ("let", "x", [], [-7]),
                 ("over", "y", "v", [0, 0, 1]), ("rest", "z", "y", [-1, 1]), ("read", "v", 5), ("balanced", "v", 24),
                 ("rounds", 10, [("let", "v", [(1, "v", 0), (4, "z", 1)], [0]), ("let", "w", [(1, "w", 0)], [])]),
                 ("rounds", 0, []), ("read", "w", 1)]
        lines = ["given a 0..9 -3..5", "given b", "let v 3*a<<2 -1*b<<0 | 1 0 2", "let w |", "let x | -7",
                 "over y v | 0 0 1", "rest z y | -1 1", "read v 5", "balanced v 24", "rounds 10",
                 "  let v 1*v<<0 4*z<<1 | 0", "  let w 1*w<<0 |", "rounds 0", "read w 1"]
        code = Code(inputs, steps)
        self.assertEqual(written(code), "\n".join(lines))
        self.assertTrue(read_code("\n".join(lines)) == code)
        self.assertEqual((read_code(written(code)).inputs, read_code(written(code)).steps), (code.inputs, code.steps))

    def test_empty_text(self):
        self.assertEqual(written(Code([], [])), "")
        self.assertEqual((read_code("").inputs, read_code("").steps), ((), ()))

    def test_texts_are_written_as_they_were_read(self):
        for text in TEXTS:
            self.assertIsNone(first_wrong_line(text))
            code = read_code(text)
            self.assertIsInstance(code, Code)
            self.assertEqual(written(code), text)
            self.assertTrue(read_code(written(code)) == code)

    def test_changed_texts(self):
        source = random.Random(1)
        seen = set()
        for _ in range(12000):
            text = source.choice(TEXTS[:-4] + TEXTS[-2:])
            for _ in range(source.randint(1, 3)):
                text = changed(source, text)
            wanted = first_wrong_line(text)
            try:
                self.assertEqual(written(read_code(text)), text)
                found = None
            except BadText as error:
                found = error.line
                seen.add(found)
            except (BadCode, TooGreat) as error:
                found = None
                seen.add(type(error))
            self.assertEqual(found, wanted, text)
        self.assertTrue({1, 2, 3, 4, 5, 6, 7, BadCode, TooGreat} <= seen)

    def test_malformed_lines(self):
        for line in ["", " ", "jump", "jump v 1", "given", "given ", "given A", "given a ", "given a  0..1", " given a",
                     "given a 0", "given a 0..", "given a ..1", "given a 0.1", "given a 0...1", "given a 0..1..2",
                     "given a 0..1 ", "given a 0 ..1", "given a 0..1\r", "Given a", "given\ta", "let", "let v",
                     "let |", "let v|", "let v | ", "let v |1", "let v  | 1", "let v | 1  2", "let v 1 |", "let v a |",
                     "let v 1*a |", "let v 1*a<0 |", "let v a<<0 |", "let v *a<<0 |", "let v 1*a<< |", "let v 1*<<0 |",
                     "let v 1*a<<0", "let v 1*a<<0|", "let v 1*a<<<0 |", "let v 1**a<<0 |", "let v 1 * a << 0 |",
                     "let v 1*a<<0<<0 |", "let v 1*A<<0 |", "let v | 1 |", "let v | |", "let V |", "let v, | 1",
                     "let v | a", "let v | 1*a<<0", "let | v", "over", "over v", "over v a", "over v a 1", "over v | 1",
                     "over v a b | 1", "over v a |1", "over v a | 1 ", "over V a | 1", "over v A | 1", "over v a | |",
                     "rest v a", "rest | | |", "rest v | | 1", "read", "read v", "read v ", "read v 1 ", "read v 1 1",
                     "read V 1", "read v v", "read 1 v", "read v | 1", "balanced v", "balanced v 1 2", "balanced  v 1",
                     "rounds", "rounds ", "rounds a", "rounds 1 2", "rounds 1 ", " rounds 1", "  rounds 1", "Rounds 1"]:
            self.bad(1, line + "\njump")
            self.bad(2, "given b\n" + line)
            self.bad(3, "let v |\nrounds 2\n" + line)

    def test_line_feeds_alone_part_lines(self):
        for line in ("let v |\n", "given a\n", "rounds 2\n", "let v |\n\n"):
            self.bad(2, line)
        self.bad(1, "\n")
        self.bad(1, "\nlet v |")
        self.bad(2, "let v |\n\nlet v |")
        for sign in ("\r\n", "\r", "\x0b", "\x0c", "\x85", "\u2028", "\x1c", "\t", "\xa0"):
            self.bad(1, "let v |" + sign + "let v |")

    def test_inputs_stand_first(self):
        self.bad(2, "let v |\ngiven a 0..1")
        self.bad(3, "given a\nrounds 0\ngiven b")
        self.bad(2, "rounds 1\n  given a")

    def test_indented_lines(self):
        self.assertEqual(len(read_code("let v |\nrounds 1\n  let v 1*v<<0 |").steps), 2)
        for text in ["  let v |", "let v |\n  let v 1*v<<0 |", "given a\n  let v |",
                     "let v |\nrounds 1\nlet v |\n  let v 1*v<<0 |", "let v |\nread v 1\n  let v 1*v<<0 |",
                     "let v |\nrounds 1\n let v 1*v<<0 |", "let v |\nrounds 1\n   let v 1*v<<0 |",
                     "let v |\nrounds 1\n\tlet v 1*v<<0 |", "let v |\nrounds 1\n    let v 1*v<<0 |",
                     "rounds 1\n  rounds 1", "let v |\nrounds 1\n  read v 1", "let v |\nrounds 1\n  over v v | 1",
                     "rounds 1\n  ", "rounds 1\n  given a", "rounds 1\n  let v |\n  let v |\n  "]:
            self.bad(text.count("\n") + 1, text)
        self.bad(3, "rounds 1\n  let v |\n read v 1\n  let v |")

    def test_integers(self):
        for word in ("0", "7", "-1", "10", "-20", str(LONG), str(-LONG)):
            self.assertEqual(read_code(f"let v | {word}").steps[0][3], (int(word),))
            self.assertEqual(read_code(f"given a {word}..{word}").inputs[0][1], ((int(word), int(word)),))
        for word in ("-0", "00", "01", "-01", "+1", "+0", "--1", "-", "1-", "1_0", "1.0", "0x1", "1e3", "\u0663",
                     "\u00b2", "\uff11", "1,0", "10 ** 2", str(LONG + 1), str(-LONG - 1), "1" * 5000, "0" * 5000):
            for line in (f"let v | {word}", f"let v {word}*a<<0 |", f"let v 1*a<<{word} |", f"over v a | {word}",
                         f"rest v a | 1 {word}", f"read v {word}", f"balanced v {word}", f"rounds {word}",
                         f"given a {word}..5", f"given a 0..1 0..{word}"):
                self.bad(1, line)

    def test_names(self):
        self.assertEqual(read_code("given abcdefghijkl\nlet zzzzzzzzzzzz |").all_names(), ["abcdefghijkl", "z" * 12])
        for name in ("abcdefghijklm", "A", "a1", "a_b", "\u00e4", "\u03b1", "\uff41", "-", "|"):
            for line in (f"given {name}", f"let {name} |", f"let v 1*{name}<<0 |", f"over {name} v | 1",
                         f"over v {name} | 1", f"rest {name} v | 1", f"read {name} 1", f"balanced {name} 1"):
                self.bad(1, line)

    def test_errors_of_codes_follow(self):
        for text, number in [("given a 1..0", None), ("given a\ngiven a", None), ("read v 1", 0),
                             ("let v | 1\nread v 0", 1), ("let v |\nread v -5", 1),
                             ("let v |\nover t v |", 1), ("let v |\nover t v | 2", 1),
                             ("given a\nlet v 1*a<<-1 |", 0), ("rounds -1", 0), ("given a\nlet a |", 0),
                             ("let v |\nrounds 2\n  let v |", 2), ("let v |\nrounds 2\n  let v 1*v<<0 |\nread t 1", 3)]:
            self.refused(BadCode, "number", number, read_code, text)
        for text in ["\n".join(f"given {name}" for name in "abcdefg"), "given a" + " 0..1" * 9, "let v |\nread v 25",
                     "let v | 1\nlet v 1*v<<25 |", "let v |\nrest v v |" + " 1" * 13, "let v |" + " 0" * 25,
                     "\n".join(["let v |"] * 21)]:
            with self.assertRaises(TooGreat):
                read_code(text)

    def test_malformed_lines_come_before_errors_of_codes(self):
        self.bad(3, "given a 1..0\nread v 0\nread v")
        self.bad(8, "\n".join(["given a"] * 7 + ["jump"]))
        self.bad(30, "\n".join(["let v |"] * 29 + [""]))

    def test_a_long_text(self):
        with self.assertRaises(TooGreat):
            read_code("\n".join(["let v |"] * 20000))
        self.bad(20001, "\n".join(["let v |"] * 20000 + ["let v | x"]))


if __name__ == "__main__":
    unittest.main()
