"""Points 1 and 2, which hold of the whole program, and how its parts agree with each other."""

import ast
import builtins
import pathlib

import plain
from packedlanes.alike import alike
from packedlanes.boxes import Box, Form
from packedlanes.checking import clean
from packedlanes.codes import Code
from packedlanes.desks import Bench
from packedlanes.packs import packed
from packedlanes.places import box_of, given_of
from packedlanes.products import lane_ends, least_width
from packedlanes.rounds import stretch, with_rounds
from packedlanes.rows import Row
from packedlanes.runs import meaning, run, spilled
from packedlanes.texts import read_code, written
from packedlanes.widths import least, serves
from packedlanes.wrap import WrapLanes

FILES = sorted((pathlib.Path(__file__).resolve().parent.parent / "packedlanes").rglob("*.py"))
USED = ("len range enumerate zip min max sum abs sorted reversed int str bool list tuple dict set isinstance ord repr "
        "any all divmod super property staticmethod ValueError TypeError").split()
# The last answer of a session has the name _ there, too.
BUILTINS = {name for name in vars(builtins) if name != "_"}
GREAT = 10 ** 1500


def words_of(path, kind):
    return [part for part in ast.walk(ast.parse(path.read_text(encoding="utf-8"))) if isinstance(part, kind)]


def answers(code):
    """Some of all that can be asked of a code, as plain values."""
    widths, first = serves(code), least(code)
    given = given_of(code, [low for low, _ in box_of(code).ranges])
    told, found, spill = meaning(code, given), run(code, 3, given), clean(code, 3)
    return (code.inputs, code.steps, code.all_names(), code.places(), written(code), told.rows, told.reads,
            found.numbers, found.reads, found.stopped, spilled(code, 3, given), widths.some, widths.start,
            widths.always, first.width, len(first.spills), spill and (spill.number, spill.lane, spill.side, spill.given))


def emptied(worth):
    """Empties a list and all lists in it."""
    for part in list(worth):
        if isinstance(part, (list, tuple)):
            emptied(part)
    if isinstance(worth, list):
        worth.clear()


class WholeTest(plain.Case):
    # Point 1.

    def test_operations_of_great_numbers_do_the_same_to_all_lanes(self):
        for one, other in zip(plain.rows_of(1, 60), plain.rows_of(2, 60)):
            x, y = Row(one), Row(other)
            for width in (1, 3, 7, 500):
                p, q = packed(x, width), packed(y, width)
                for row, pack in [(x + y, p + q), (x - y, p - q), (x * y, p * q), (x.times(-7), p.times(-7)),
                                  (x.up(3), p.up(3))]:
                    self.assertEqual(packed(row, width), pack)

    def test_what_spills_out_of_a_lane_is_hidden_until_lanes_are_looked_at(self):
        pack = packed(Row([9, 9]), 4) + packed(Row([9, 9]), 4)
        self.assertEqual(pack.digits(3), (2, 3, 1))
        back = pack - packed(Row([9, 9]), 4)
        self.assertEqual(back.digits(3), (9, 9, 0))

    def test_a_run_tells_what_is_meant_exactly_at_the_widths_that_are_clean(self):
        for code in plain.codes_of(51, 150, 5):
            widths = serves(code)
            for width in (1, 2, 3, 4, 7, 60):
                spoiled = [given for given in plain.inputs_of(code) if spilled(code, width, given) is not None]
                self.assertEqual(widths.has(width), spoiled == [])
                if spoiled:
                    spill = clean(code, width)
                    self.assertIn(spill.given, spoiled)
                    self.assertEqual(spill.number, min(spilled(code, width, given) for given in spoiled))
                else:
                    self.runs_as_meant(code, width)

    def runs_as_meant(self, code, width):
        for given in plain.inputs_of(code):
            told, found = meaning(code, given), run(code, width, given)
            self.assertEqual((found.reads, found.stopped), (told.reads, None))
            self.assertEqual(found.numbers, {name: plain.number(told.rows[name], width) for name in told.rows})

    def test_texts_tell_all_of_a_code(self):
        for code in plain.codes_of(52, 60):
            again = read_code(written(code))
            self.assertEqual(answers(again), answers(code))
            self.assertIsNone(alike(again, code))

    def test_a_bench_does_what_a_code_does(self):
        for code in plain.codes_of(53, 150, 9):
            for given in list(plain.inputs_of(code))[:2]:
                bench = Bench(5)
                told, found = meaning(code, given), run(code, 5, given)
                if found.stopped is None:
                    self.follow(bench, code, given)
                    self.assertEqual({name: bench.row_of(name) for name in bench.all_names()}, told.rows)
                    self.assertEqual({name: bench.number_of(name) for name in bench.all_names()}, found.numbers)
                    self.assertEqual(sorted(bench.all_names()), sorted(code.all_names()))

    def follow(self, bench, code, given):
        for name, lanes in given.items():
            bench.put(name, lanes)
        for _, step in plain.numbered(code.steps):
            if step[0] == "let":
                bench.mix(*step[1:])
            elif step[0] in ("over", "rest"):
                getattr(bench, step[0])(*step[1:])

    def test_products_of_ranges_are_the_reads_of_codes(self):
        # With one factor told, the product is a let.
        ranges, factor = [(0, 3), (-1, 2), (4, 9)], [2, 0, -3]
        ends = lane_ends(ranges, [(worth, worth) for worth in factor])
        terms = [(worth, "u", lane) for lane, worth in enumerate(factor)]
        code = Code([("u", ranges)], [("let", "v", terms, []), ("balanced", "v", len(ends))])
        need = max(max(worth.bit_length(), (-worth - 1).bit_length() if worth < 0 else 0) for pair in ends for worth in pair)
        self.assertEqual((serves(code).start, serves(code).always), (need + 1, True))
        ranges = [(0, 3), (1, 2)]
        code = Code([("u", ranges)], [("let", "v", [(5, "u", 0), (1, "u", 1)], []), ("read", "v", 3)])
        self.assertEqual(least(code).width, least_width(ranges, [(5, 5), (1, 1)]).width)

    # Point 2.

    def test_integers_of_any_size(self):
        row = Row([GREAT, -GREAT])
        self.assertEqual((row * row).entries, (GREAT ** 2, -2 * GREAT ** 2, GREAT ** 2))
        bench = Bench(9)
        bench.put("x", [GREAT, 1])
        bench.mix("x", [(GREAT, "x", 1)], [GREAT])
        self.assertEqual(bench.row_of("x"), (GREAT, GREAT ** 2, GREAT))
        self.assertEqual((WrapLanes.of(8, [3, 5]) * GREAT).digits(), (3 * GREAT % 256, 5 * GREAT % 256))
        self.assertEqual((Form([GREAT, -1]).ends(Box([(0, GREAT), (0, 1)]))), (-1, GREAT ** 2))

    def test_only_the_words_of_the_language_are_used(self):
        for path in FILES:
            names = {part.id for part in words_of(path, ast.Name)}
            self.assertEqual(sorted(name for name in names & BUILTINS if name not in USED), [])
            modules = {part.module.split(".")[0] for part in words_of(path, ast.ImportFrom)}
            self.assertTrue(modules <= {"packedlanes"}, modules)
            self.assertEqual(words_of(path, ast.Import), [])

    def test_the_same_answers_each_time(self):
        for code in plain.codes_of(54, 40):
            again = Code(code.inputs, code.steps)
            self.assertEqual(answers(code), answers(code))
            self.assertEqual(answers(again), answers(code))

    def test_objects_copy_the_lists_that_they_are_given(self):
        inputs = [["u", [[0, 3], [-1, 2]]]]
        steps = [["let", "v", [[2, "u", 0]], [1]], ["over", "w", "v", [0, 1]], ["rounds", 2, [["let", "v", [[1, "v", 0]], [1]]]],
                 ["read", "v", 1]]
        entries, ranges, numbers = [1, 2], [[0, 3]], [4]
        row, box, form, code = Row(entries), Box(ranges), Form(numbers), Code(inputs, steps)
        before = (row.entries, box.ranges, form.numbers, answers(code), stretch(code, 2, 4))
        for worth in (inputs, steps, entries, ranges, numbers):
            emptied(worth)
        self.assertEqual((row.entries, box.ranges, form.numbers, answers(code), stretch(code, 2, 4)), before)
        self.assertEqual((before[0], before[1], before[2]), ((1, 2), ((0, 3),), (4,)))

    def test_lists_that_are_given_stay_as_they_are(self):
        inputs, steps = [["u", [[0, 3], [-1, 2]]]], [["let", "v", [[2, "u", 0]], [1, 0]], ["rest", "w", "v", [-1, 1]]]
        code = Code(inputs, steps)
        given, point = {"u": [3, 2]}, [3, 2]
        meaning(code, given), run(code, 4, given), spilled(code, 4, given), given_of(code, point), answers(code)
        bench, terms, row, divisor = Bench(4), [[2, "x", 1]], [7, 0], [-1, 1]
        bench.put("x", row)
        bench.mix("y", terms, row)
        bench.over("z", "y", divisor)
        bench.rest("z", "y", divisor)
        self.assertEqual((inputs, steps), ([["u", [[0, 3], [-1, 2]]]], [["let", "v", [[2, "u", 0]], [1, 0]],
                                                                       ["rest", "w", "v", [-1, 1]]]))
        self.assertEqual((given, point, terms, row, divisor), ({"u": [3, 2]}, [3, 2], [[2, "x", 1]], [7, 0], [-1, 1]))

    def test_each_list_that_is_returned_is_new(self):
        code = Code([("u", [(0, 3)])], [("read", "u", 1), ("rounds", 3, [])])
        bench = Bench(4)
        bench.put("x", [1])
        for ask in (code.all_names, code.places, bench.all_names, lambda: meaning(code, {"u": [3]}).reads,
                    lambda: run(code, 4, {"u": [3]}).reads, lambda: with_rounds(code, 1, 4).places()):
            told = list(ask())
            ask().append(None)
            ask().clear()
            self.assertEqual(ask(), told)
            self.assertIsInstance(ask(), list)
            self.assertIsNot(ask(), ask())


if __name__ == "__main__":
    plain.unittest.main()
