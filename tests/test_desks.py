"""Points 31 to 33: benches, on which rows are worked with by hand."""

import random

import plain
from packedlanes.desks import Bench
from packedlanes.errors import BadName, BadWidth, LanesError, NoName, NothingToUndo, NotMonic, NotPositive, TooGreat

MALFORMED = ("", "abcdefghijklm", "A", "a1", "a b", " a", "a\n", "_", "\u00e9", "a-")
DEEDS = ("put", "mix", "over", "rest", "widen")


def state(bench):
    """All that a bench tells of its names, and the width, as the number of a row tells it."""
    bench_width = bench.width
    return bench_width, [(name, bench.row_of(name), bench.number_of(name)) for name in bench.all_names()]


def filled(width=4, **rows):
    bench = Bench(width)
    for name, row in rows.items():
        bench.put(name, row)
    return bench


class Plainly:
    """A bench that keeps all of its earlier states."""

    def __init__(self, width):
        self.states, self.at = [(width, {})], 0

    def now(self):
        width, held = self.states[self.at]
        return width, [(name, *held[name]) for name in held]

    def follow(self, word, *told):
        width, held = self.states[self.at]
        held = dict(held)
        if word == "widen":
            width = told[0]
            held = {name: (held[name][0], plain.number(held[name][0], width)) for name in held}
        else:
            held[told[0]] = getattr(self, word)(width, held, *told[1:])
        self.states[self.at + 1:] = [(width, held)]
        self.at += 1

    def put(self, width, held, row):
        return plain.cut(row), plain.number(row, width)

    def mix(self, width, held, terms, row):
        parts = [factor * held[used][1] * 2 ** (shift * width) for factor, used, shift in terms]
        return (plain.mixed({name: held[name][0] for name in held}, terms, row),
                sum(parts) + plain.number(row, width))

    def over(self, width, held, a, divisor):
        return plain.divided(held[a][0], divisor)[0], held[a][1] // plain.number(divisor, width)

    def rest(self, width, held, a, divisor):
        return plain.divided(held[a][0], divisor)[1], held[a][1] % plain.number(divisor, width)


def some_deed(source, names):
    """The word and the arguments of some deed; most of them are not refused."""
    word = source.choice(DEEDS if names else ["put", "widen"])
    row = [source.randint(-9, 9) for _ in range(source.randint(0, 4))]
    if word == "widen":
        return word, source.randint(1, 9)
    name = source.choice("abcdefg")
    if word == "put":
        return word, name, row
    if word == "mix":
        terms = [(source.randint(-3, 3), source.choice(names), source.randint(0, 3)) for _ in range(3)]
        return word, name, terms[:source.randint(0, 3)], row
    return word, name, source.choice(names), row[:2] + [1]


class DesksTest(plain.Case):
    def unchanged(self, bench, error, attribute, worth, method, *arguments):
        """The deed is refused with this error, and all is as it was."""
        before = state(bench)
        self.refused(error, attribute, worth, getattr(bench, method), *arguments)
        self.assertEqual(state(bench), before)

    def test_example(self):
        bench = Bench(4)
        bench.put("x", [9, 3])
        bench.mix("t", [(2, "x", 0)], [])
        self.assertEqual([bench.row_of("t"), bench.number_of("t"), bench.shown("t", 2), bench.hidden("t"),
                          bench.carry("t", 1)], [(18, 6), 114, (2, 7), (0, 1), 1])
        bench.widen(bench.least_width("t"))
        self.assertEqual(bench.shown("t", 2), (18, 6))

    # Points 24 and 31: widths.

    def test_widths(self):
        for width in (0, -1, -10 ** 30):
            self.refused(BadWidth, "width", width, Bench, width)
            self.unchanged(filled(x=[1, 2]), BadWidth, "width", width, "widen", width)
        for width in (4001, 10 ** 30):
            with self.assertRaises(TooGreat):
                Bench(width)
            bench = filled(x=[1, 2])
            before = state(bench)
            with self.assertRaises(TooGreat):
                bench.widen(width)
            self.assertEqual(state(bench), before)
        for width in (1, 4000):
            bench = Bench(width)
            bench.put("x", [1, 1])
            self.assertEqual(bench.number_of("x"), 1 + 2 ** width)
            bench.widen(4001 - width)
            self.assertEqual(bench.number_of("x"), 1 + 2 ** (4001 - width))

    # Point 31: deeds.

    def test_put(self):
        bench = Bench(3)
        for row, cut, number in [([], (), 0), ([0, 0], (), 0), ([5], (5,), 5), ((1, -2, 0), (1, -2), -15),
                                 ([10 ** 30, 0, 1], (10 ** 30, 0, 1), 10 ** 30 + 64)]:
            bench.put("x", row)
            self.assertEqual((bench.row_of("x"), bench.number_of("x")), (cut, number))
        self.assertEqual(bench.all_names(), ["x"])

    def test_rows_are_copied(self):
        row, terms, divisor = [1, 2], [[2, "x", 0]], [-1, 1]
        bench = filled(x=row)
        bench.mix("m", terms, row)
        bench.over("q", "m", divisor)
        row[0] = terms[0][0] = divisor[0] = 77
        bench.undo()
        bench.redo()
        self.assertEqual([bench.row_of(name) for name in "xmq"], [(1, 2), (3, 6), (6,)])
        bench.all_names().clear()
        self.assertEqual(bench.all_names(), ["x", "m", "q"])

    def test_mix(self):
        for terms, row in [([], []), ([], [3, 0, 0]), ([(2, "x", 0)], []), ([(1, "x", 0), (-1, "x", 0)], [0]),
                           ([(-3, "y", 2), (1, "x", 1)], (5, 6)), ([(0, "x", 9)], [1]), ([(7, "z", 40)], [1]),
                           (((1, "t", 0), [1, "t", 1]), [])]:
            bench = filled(x=[9, 3], y=[-4, 0, 1], z=[], t=[2])
            bench.mix("t", terms, row)
            rows = {"x": (9, 3), "y": (-4, 0, 1), "z": (), "t": (2,)}
            wanted = plain.mixed(rows, terms, row)
            self.assertEqual((bench.row_of("t"), bench.number_of("t")), (wanted, plain.number(wanted, 4)))
            self.assertFalse(bench.apart("t"))

    def test_over_and_rest(self):
        for divisor in ([1], [-1, 1], (0, 1), [5, -3, 1], [0, 0, 0, 1], [-15, 1]):
            bench = filled(x=[9, 3, -2])
            by = plain.number(divisor, 4)
            bench.over("q", "x", divisor)
            bench.rest("r", "x", divisor)
            number = plain.number([9, 3, -2], 4)
            self.assertEqual((bench.row_of("q"), bench.row_of("r")), plain.divided([9, 3, -2], divisor))
            self.assertEqual((bench.number_of("q"), bench.number_of("r")), (number // by, number % by))
            bench.rest("x", "x", divisor)
            self.assertEqual((bench.row_of("x"), bench.number_of("x")), (bench.row_of("r"), bench.number_of("r")))

    def test_rows_by_meaning_and_integers_by_running(self):
        bench = filled(x=[9, 9])
        bench.rest("s", "x", [-1, 1])
        self.assertEqual((bench.row_of("s"), bench.number_of("s"), bench.apart("s")), ((18,), 3, True))
        # What follows is done with both, as they are.
        bench.mix("t", [(2, "s", 1)], [1])
        self.assertEqual((bench.row_of("t"), bench.number_of("t"), bench.apart("t")), ((1, 36), 97, True))
        bench.over("u", "t", [0, 1])
        self.assertEqual((bench.row_of("u"), bench.number_of("u"), bench.apart("u")), ((36,), 6, True))
        self.assertEqual((bench.apart("x"), bench.hidden("s"), bench.shown("s", 2)), (False, (0,), (3, 0)))
        # The integer is taken anew from the row.
        bench.widen(5)
        self.assertEqual((bench.number_of("s"), bench.number_of("t"), bench.apart("t")), (18, 1 + 36 * 32, False))

    def test_widen(self):
        bench = filled(x=[9, 3], e=[], n=[-1, 0, 2])
        for width in (1, 7, 4, 4, 4000):
            bench.widen(width)
            self.assertEqual([bench.number_of(name) for name in "xen"],
                             [plain.number(bench.row_of(name), width) for name in "xen"])
            self.assertEqual([bench.row_of(name) for name in "xen"], [(9, 3), (), (-1, 0, 2)])
            bench.put("last", [1, 1])
            self.assertEqual(bench.number_of("last"), 1 + 2 ** width)
        Bench(4).widen(9)

    def test_the_limits_of_codes_do_not_hold(self):
        long = 10 ** 900
        bench = filled(x=[long] * 30)
        bench.mix("y", [(-long, "x", 40)], [1] * 50)
        self.assertEqual((len(bench.row_of("y")), bench.row_of("y")[69]), (70, -long * long))
        bench.over("z", "y", [long] * 20 + [1])
        self.assertEqual(len(bench.row_of("z")), 50)
        for word in range(40):
            bench.put("abcdefghijkl"[:word % 12 + 1], [word])
        self.assertEqual(len(bench.shown("z", 60)), 60)
        bench.mix("e", [(0, "x", 0), (1, "x", 0), (-1, "x", 0)], [0, 0])
        bench.mix("t", [(7, "e", 10 ** 15)], [1])
        self.assertEqual((bench.row_of("t"), bench.number_of("t")), ((1,), 1))

    # Point 31: what is refused.

    def test_malformed_names(self):
        bench = filled(x=[1, 2])
        for name in MALFORMED + (7, None, ("a",)):
            self.unchanged(bench, BadName, "name", name, "put", name, [1])
            for used in ("x", "nowhere"):
                self.unchanged(bench, BadName, "name", name, "mix", name, [(1, used, 0)], [])
                for word in ("over", "rest"):
                    for divisor in ([0, 1], [], [-99, 1]):
                        self.unchanged(bench, BadName, "name", name, word, name, used, divisor)
        bench.put("abcdefghijkl", [1])
        bench.put("z", [1])

    def test_names_that_are_not_there(self):
        bench = filled(x=[1, 2])
        for name in ("y", "", "X", "n"):
            for told in ("x", "n"):
                self.unchanged(bench, NoName, "name", name, "mix", told, [(1, "x", 0), (0, name, 0), (1, "m", 0)], [])
                for word in ("over", "rest"):
                    for divisor in ([0, 1], [], [2], [-99, 1]):
                        self.unchanged(bench, NoName, "name", name, word, told, name, divisor)
            for word in ("row_of", "number_of", "apart", "hidden", "least_width"):
                self.unchanged(bench, NoName, "name", name, word, name)
            for word in ("shown", "shown_balanced", "carry"):
                self.unchanged(bench, NoName, "name", name, word, name, 0)

    def test_divisors_that_are_refused(self):
        bench = filled(x=[1, 2])
        for word in ("over", "rest"):
            for divisor in ([], (), [0], [2], [1, 0], [1, -1], (-99, 2)):
                self.unchanged(bench, NotMonic, "row", tuple(divisor), word, "y", "x", divisor)
            for divisor in ([-16, 1], [-17, 1], (0, -16, 1), [-10 ** 900, 0, 1]):
                self.unchanged(bench, NotPositive, "number", plain.number(divisor, 4), word, "y", "x", divisor)
            getattr(bench, word)("y", "x", [-15, 1])
            bench.undo()

    # Point 32.

    def test_all_names_in_the_order_in_which_they_were_first_set(self):
        bench = filled(c=[1], a=[2])
        self.assertEqual(Bench(4).all_names(), [])
        bench.mix("b", [], [])
        bench.put("a", [7])
        bench.over("q", "c", [1])
        bench.rest("r", "c", [1])
        self.assertEqual(bench.all_names(), ["c", "a", "b", "q", "r"])
        self.assertIsInstance(bench.all_names(), list)

    def test_settings_that_were_taken_back_do_not_count(self):
        bench = filled(c=[1], a=[2], b=[3])
        bench.undo()
        bench.undo()
        self.assertEqual(bench.all_names(), ["c"])
        bench.put("b", [1])
        bench.put("a", [1])
        self.assertEqual(bench.all_names(), ["c", "b", "a"])
        bench.put("b", [2])
        bench.undo()
        self.assertEqual(bench.all_names(), ["c", "b", "a"])
        bench.undo()
        bench.undo()
        bench.redo()
        bench.redo()
        self.assertEqual(bench.all_names(), ["c", "b", "a"])

    def test_shown(self):
        for number in (0, 5, -5, 114, -114, 10 ** 30):
            for width in (1, 2, 4):
                bench = filled(width, x=[number])
                for n in (0, 1, 2, 9):
                    self.assertEqual(bench.shown("x", n), plain.digits(number, width, n, 0))
                    self.assertEqual(bench.shown_balanced("x", n), plain.digits(number, width, n, -(2 ** (width - 1))))
        self.assertEqual((bench.shown("x", 0), bench.shown_balanced("x", 0)), ((), ()))

    def test_shown_tells_the_integer_not_the_row(self):
        bench = filled(x=[9, 9])
        bench.rest("s", "x", [-1, 1])
        self.assertEqual((bench.shown("s", 2), bench.shown_balanced("s", 2)), ((3, 0), (3, 0)))

    def test_apart(self):
        bench = filled(x=[9, 9], y=[1, 2])
        bench.rest("s", "x", [-1, 1])
        bench.rest("t", "y", [-1, 1])
        self.assertEqual([bench.apart(name) for name in "xyst"], [False, False, True, False])
        self.assertIs(bench.apart("s"), True)
        self.assertIs(bench.apart("t"), False)

    def test_carry(self):
        for row in plain.rows_of(8, 40):
            for width in (1, 3, 4):
                bench = filled(width, x=row)
                for lane in range(9):
                    self.assertEqual(bench.carry("x", lane), plain.carry(row, lane, width))
        bench = filled(x=[9, 9])
        bench.rest("s", "x", [-1, 1])
        # The carry is that of the row: the integer is 3.
        self.assertEqual([bench.carry("s", lane) for lane in (0, 1, 2, 500)], [0, 1, 0, 0])
        self.assertEqual([filled(x=[-1]).carry("x", lane) for lane in (0, 1, 500)], [0, -1, -1])
        self.assertEqual(filled(x=[]).carry("x", 3), 0)

    def test_hidden(self):
        for row, lanes in [([], ()), ([15, 0, 1], ()), ([16], (0,)), ([16, 1], (0, 1)), ([-1, 1], (0, 1)),
                           ([1, 2, -3], (2,)), ([16, 15, 7], (0, 1, 2)), ([3, 20, -1], (1, 2)), ([32, -2, 5], (0, 1))]:
            bench = filled(x=row)
            number = plain.number(row, 4)
            shown = plain.digits(number, 4, len(row), 0)
            self.assertEqual(bench.hidden("x"), tuple(n for n, worth in enumerate(row) if shown[n] != worth))
            self.assertEqual(bench.hidden("x"), lanes)
            self.assertIsInstance(bench.hidden("x"), tuple)

    def test_hidden_looks_at_the_integer(self):
        bench = filled(x=[9, 9, 2, 15, 15])
        bench.rest("s", "x", [0, 0, -1, 1])
        self.assertEqual((bench.row_of("s"), bench.number_of("s") % 256), ((9, 9, 32), 9 * 16 + 9))
        self.assertEqual(bench.hidden("s"), (2,))

    def test_least_width(self):
        for row, width in [([], 1), ([0], 1), ([1], 1), ([2], 2), ([3, 4], 3), ([0, 7], 3), ([8, 1], 4), ([-1], None),
                           ([5, -1, 9], None), ([2 ** 5000 - 1], 5000), ([2 ** 5000], 5001), ([0, 0, 1], 1)]:
            for bench_width in (1, 4, 4000):
                bench = filled(bench_width, x=row)
                self.assertEqual(bench.least_width("x"), width)
                if width is not None and width <= 4000:
                    bench.widen(width)
                    self.assertEqual(bench.hidden("x"), ())
                    if width > 1:
                        bench.widen(width - 1)
                        self.assertNotEqual(bench.hidden("x"), ())

    # Point 33.

    def test_nothing_to_undo(self):
        bench = Bench(4)
        for word in ("undo", "redo"):
            with self.assertRaises(NothingToUndo):
                getattr(bench, word)()
        bench.put("x", [1])
        with self.assertRaises(NothingToUndo):
            bench.redo()
        bench.undo()
        with self.assertRaises(NothingToUndo):
            bench.undo()
        bench.redo()
        with self.assertRaises(NothingToUndo):
            bench.redo()
        self.assertEqual(bench.row_of("x"), (1,))

    def test_each_deed_is_taken_back_and_done_again(self):
        bench = Bench(4)
        deeds = [("put", "x", [9, 9]), ("rest", "s", "x", [-1, 1]), ("mix", "x", [(1, "s", 1)], [2]), ("widen", 3),
                 ("over", "q", "x", [0, 1]), ("put", "x", []), ("widen", 9), ("rest", "s", "s", [1])]
        states = [state(bench)]
        for word, *told in deeds:
            getattr(bench, word)(*told)
            states.append(state(bench))
        for _ in range(2):
            for before in states[-2::-1]:
                bench.undo()
                self.assertEqual(state(bench), before)
            for after in states[1:]:
                bench.redo()
                self.assertEqual(state(bench), after)

    def test_undo_of_widen_gives_back_integers_that_were_apart(self):
        bench = filled(x=[9, 9])
        bench.rest("s", "x", [-1, 1])
        bench.widen(4)
        self.assertFalse(bench.apart("s"))
        bench.undo()
        self.assertEqual((bench.apart("s"), bench.number_of("s")), (True, 3))
        bench.redo()
        self.assertEqual((bench.apart("s"), bench.number_of("s")), (False, 18))

    def test_deeds_that_change_nothing_count(self):
        bench = filled(x=[1])
        bench.put("x", [1])
        bench.widen(4)
        bench.mix("x", [(1, "x", 0)], [])
        for _ in range(3):
            bench.undo()
            self.assertEqual(bench.row_of("x"), (1,))
        bench.undo()
        self.assertEqual(bench.all_names(), [])

    def test_a_new_deed_forgets_what_could_be_done_again(self):
        for word, *told in [("put", "y", [1]), ("mix", "x", [], []), ("widen", 4), ("over", "x", "x", [1]),
                            ("rest", "x", "x", [1])]:
            bench = filled(x=[1], y=[2], z=[3])
            bench.undo()
            bench.undo()
            getattr(bench, word)(*told)
            with self.assertRaises(NothingToUndo):
                bench.redo()

    def test_refused_deeds_do_not_count(self):
        bench = filled(x=[1], y=[2])
        bench.undo()
        for word, *told in [("put", "Y", [1]), ("mix", "x", [(1, "y", 0)], []), ("widen", 0), ("widen", 4001),
                            ("over", "x", "x", []), ("rest", "x", "x", [-99, 1]), ("row_of", "y"), ("carry", "y", 1)]:
            with self.assertRaises(LanesError):
                getattr(bench, word)(*told)
        bench.redo()
        self.assertEqual(bench.row_of("y"), (2,))
        with self.assertRaises(LanesError):
            bench.over("x", "x", [0])
        bench.undo()
        bench.undo()
        self.assertEqual(bench.all_names(), [])
        with self.assertRaises(NothingToUndo):
            bench.undo()

    def test_looking_is_no_deed(self):
        bench = filled(x=[1], y=[20])
        bench.undo()
        bench.all_names(), bench.shown("x", 3), bench.shown_balanced("x", 3), bench.apart("x"), bench.carry("x", 1)
        bench.hidden("x"), bench.least_width("x"), bench.row_of("x"), bench.number_of("x")
        bench.redo()
        self.assertEqual(bench.row_of("y"), (20,))

    def test_many_deeds_with_all_their_states(self):
        for seed in range(30):
            source = random.Random(seed)
            bench, plainly = Bench(4), Plainly(4)
            for _ in range(60):
                word = source.choice(["undo", "redo", "deed", "deed", "deed"])
                if word == "undo" and plainly.at > 0:
                    bench.undo()
                    plainly.at -= 1
                elif word == "redo" and plainly.at < len(plainly.states) - 1:
                    bench.redo()
                    plainly.at += 1
                elif word == "deed":
                    deed, *told = some_deed(source, bench.all_names())
                    try:
                        getattr(bench, deed)(*told)
                        plainly.follow(deed, *told)
                    except NotPositive:
                        pass
                self.assertEqual(state(bench), plainly.now())


if __name__ == "__main__":
    plain.unittest.main()
