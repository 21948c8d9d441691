"""Points 2 and 13 to 19: what a code may be, the errors of one that may not, and what a code tells of itself."""

import unittest

import plain
from packedlanes.codes import Code
from packedlanes.errors import BadCode, NoName, TooGreat

LONG = 10 ** 600 - 1
INPUTS = [("a", [(0, 9), (0, 9), (0, 9)]), ("b", [(-4, 4)]), ("e", [])]
START = [("let", "v", [(1, "a", 0)], []), ("let", "w", [(2, "b", 1)], [])]


def let(name, *terms, row=()):
    return ("let", name, list(terms), list(row))


def more(name, *terms, row=()):
    """A let as it may stand inside of rounds."""
    return let(name, (1, name, 0), *terms, row=row)


class Case(plain.Case):
    def bad(self, number, steps, inputs=INPUTS):
        self.refused(BadCode, "number", number, Code, inputs, steps)

    def bad_behind(self, *steps):
        """The last of these steps is refused behind two lets, and as the first one of a code."""
        self.bad(len(START) + len(steps) - 1, [*START, *steps])

    def too_great(self, steps, inputs=INPUTS):
        with self.assertRaises(TooGreat):
            Code(inputs, steps)

    def too_great_behind(self, *steps):
        self.too_great([*START, *steps])


class CodeTest(Case):
    # Points 13, 16, 17 and 19: what a code tells.

    def test_example(self):
        steps = [("let", "v", [(1, "a", 0), (1, "b", 0)], []), ("read", "v", 2), ("rest", "s", "v", [-1, 1]),
                 ("read", "s", 1)]
        pair = Code([("a", [(0, 9), (0, 9)]), ("b", [(0, 9), (0, 9)])], steps)
        self.assertEqual([pair.all_names(), pair.places(), pair.lanes_of("s")], [["a", "b", "v", "s"], [1, 2, 3], 1])

    def test_attributes_are_tuples_throughout(self):
        told = Code([["a", [[0, 9], (1, 2)]], ("b", [])],
                    [["let", "v", [[1, "a", 0], (2, "b", 3)], [4, 0]], ["over", "v", "v", [0, 1]],
                     ["rounds", 3, [["let", "v", [[1, "v", 0]], [1]]]], ["read", "v", 2]])
        self.assertEqual(told.inputs, (("a", ((0, 9), (1, 2))), ("b", ())))
        self.assertEqual(told.steps, (("let", "v", ((1, "a", 0), (2, "b", 3)), (4, 0)), ("over", "v", "v", (0, 1)),
                                      ("rounds", 3, (("let", "v", ((1, "v", 0),), (1,)),)), ("read", "v", 2)))

    def test_lists_and_tuples_are_taken_alike(self):
        steps = (*START, ("rounds", 2, [more("v", row=[1])]), ("rest", "r", "v", [-1, 1]))
        code = Code(INPUTS, steps)
        same = Code(code.inputs, code.steps)
        self.assertEqual((same.inputs, same.steps), (code.inputs, code.steps))
        self.assertTrue(code == same)

    def test_lists_are_copied(self):
        pair, ranges, term, row = [0, 9], [(1, 2)], [1, "a", 0], [5]
        inputs, terms, divisor, lets = [["a", ranges]], [term], [0, 1], []
        ranges.append(pair)
        steps = [["let", "v", terms, row], ["over", "w", "v", divisor], ["rounds", 2, lets]]
        code = Code(inputs, steps)
        kept = (code.inputs, code.steps)
        pair[1] = -1
        term[1] = "z"
        lets.append(7)
        for told in (inputs, ranges, terms, row, divisor, steps):
            told.clear()
        self.assertEqual((code.inputs, code.steps), kept)
        self.assertEqual(kept, ((("a", ((1, 2), (0, 9))),),
                                (("let", "v", ((1, "a", 0),), (5,)), ("over", "w", "v", (0, 1)), ("rounds", 2, ()))))
        self.assertEqual((code.all_names(), code.lanes_of("w")), (["a", "v", "w"], 1))

    def test_each_list_that_is_returned_is_new(self):
        code = Code(INPUTS, [*START, ("read", "v", 1)])
        code.all_names().clear()
        code.places().append(9)
        self.assertEqual((code.all_names(), code.places()), (["a", "b", "e", "v", "w"], [2]))
        self.assertIsInstance(code.all_names(), list)
        self.assertIsInstance(code.places(), list)

    def test_without_inputs_and_steps(self):
        code = Code([], [])
        self.assertEqual((code.inputs, code.steps, code.all_names(), code.places()), ((), (), [], []))
        code = Code((), [let("v", row=[1, 2])])
        self.assertEqual((code.all_names(), code.lanes_of("v")), (["v"], 2))
        self.assertEqual(Code(INPUTS, ()).all_names(), ["a", "b", "e"])

    def test_equal(self):
        code = Code(INPUTS, START)
        self.assertTrue(code == Code(tuple(INPUTS), tuple(START)))
        self.assertFalse(code != Code(INPUTS, START))
        for other in (Code(INPUTS, START[:1]), Code(INPUTS, START[::-1]), Code(INPUTS[:2], START),
                      Code([INPUTS[1], INPUTS[0], INPUTS[2]], START), Code(INPUTS, []), None, (INPUTS, START), "code"):
            self.assertFalse(code == other)
            self.assertTrue(code != other)
        self.assertFalse(Code([], [let("v")]) == Code([], [let("v", row=[0])]))
        self.assertFalse(Code([], [let("v"), ("read", "v", 1)]) == Code([], [let("v"), ("balanced", "v", 1)]))

    def test_names_in_the_order_in_which_they_are_first_set(self):
        steps = [let("z"), let("c", (1, "z", 0)), let("z", row=[1]), ("over", "m", "z", [1]), ("rest", "c", "m", [1]),
                 ("rounds", 2, [more("m"), more("z")]), ("rest", "d", "a", [1])]
        self.assertEqual(Code(INPUTS, steps).all_names(), ["a", "b", "e", "z", "c", "m", "d"])

    def test_places_count_the_lets_inside_of_rounds(self):
        steps = [*START, ("read", "v", 1), ("rounds", 0, []), ("over", "t", "v", [1]),
                 ("rounds", 5, [more("v"), more("w"), more("t")]), ("rest", "t", "v", [1]), ("balanced", "t", 3)]
        self.assertEqual(Code(INPUTS, steps).places(), [2, 4, 9, 10])

    def lanes_set(self, *steps):
        """The number of lanes of the name that the last of the steps sets."""
        return Code(INPUTS, [*START, *steps]).lanes_of(steps[-1][1])

    def test_lanes_of_inputs_and_lets(self):
        code = Code(INPUTS, START)
        self.assertEqual([code.lanes_of(name) for name in "abevw"], [3, 1, 0, 3, 2])
        self.assertEqual(self.lanes_set(let("x")), 0)
        self.assertEqual(self.lanes_set(let("x", row=[0, 0, 0, 0])), 4)
        self.assertEqual(self.lanes_set(let("x", (0, "a", 2), row=[1] * 4)), 5)
        self.assertEqual(self.lanes_set(let("x", (3, "b", 4), (-3, "b", 4), (1, "a", 1))), 5)
        self.assertEqual(self.lanes_set(let("x", (1, "e", 7))), 7)
        self.assertEqual(self.lanes_set(let("v", (1, "v", 2)), let("v", (1, "v", 2))), 7)

    def test_lanes_of_over_and_rest(self):
        for entries, over, rest in [(1, 3, 0), (2, 2, 1), (3, 1, 2), (4, 0, 3), (5, 0, 3), (12, 0, 3)]:
            divisor = [0] * (entries - 1) + [1]
            self.assertEqual(self.lanes_set(("over", "x", "a", divisor)), over)
            self.assertEqual(self.lanes_set(("rest", "x", "a", divisor)), rest)
        self.assertEqual(self.lanes_set(("over", "x", "e", [1])), 0)
        self.assertEqual(self.lanes_set(("over", "v", "v", [1, 1])), 2)
        self.assertEqual(self.lanes_set(("rest", "v", "v", [1, 1])), 1)

    def test_lanes_behind_rounds(self):
        for count in (0, 1, LONG):
            code = Code(INPUTS, [*START, ("rounds", count, [more("v", (1, "a", 5)), more("w", row=[0] * 9)])])
            self.assertEqual((code.lanes_of("v"), code.lanes_of("w"), code.lanes_of("a")), (8, 9, 3))

    def test_lanes_are_those_at_the_end(self):
        self.assertEqual(Code(INPUTS, [let("v", row=[1] * 9), ("read", "v", 9), let("v")]).lanes_of("v"), 0)

    def test_no_name(self):
        code = Code(INPUTS, START)
        for name in ("c", "x", "", "A", "aa", "V"):
            self.refused(NoName, "name", name, code.lanes_of, name)

    # Point 18: inputs.

    def test_six_and_seven_inputs(self):
        inputs = [(name, [(0, 1)]) for name in "abcdefg"]
        self.assertEqual(Code(inputs[:6], []).all_names(), list("abcdef"))
        self.too_great([], inputs)
        self.too_great([("jump",)], [("", [(1, 0)])] * 7)

    def test_names_of_inputs(self):
        for name in ("a", "z", "abcdefghijkl", "given", "let"):
            self.assertEqual(Code([(name, [])], []).all_names(), [name])
        for name in ("", "abcdefghijklm", "A", "aB", "a1", "a b", " a", "a\n", "_", "\u00e9", "\u0430", "a-"):
            self.bad(None, [], [("b", [(0, 1)]), (name, [(0, 1)])])
        for word in (7, None, ("a",)):
            self.bad(None, [], [(word, [])])
        self.bad(None, [], [("b", []), ("c", []), ("b", [])])

    def test_ranges(self):
        code = Code([("a", [(0, 0), (-LONG, LONG), (LONG, LONG), (-LONG, -LONG), (5, 6), (0, 1), (0, 1), (0, 1)])], [])
        self.assertEqual(code.lanes_of("a"), 8)
        self.bad(None, [], [("a", [(0, 0), (1, 0)])])
        self.bad(None, [], [("a", [(LONG, -LONG)])])
        self.too_great([], [("a", [(0, 1)] * 9)])
        for pair in [(0, LONG + 1), (-LONG - 1, 0), (-LONG - 1, LONG + 1), (10 ** 5000, 10 ** 5000)]:
            self.too_great([], [("a", [(0, 1), pair])])

    def test_order_of_errors_of_inputs(self):
        self.bad(None, [], [("A", [(0, 1)] * 9)])
        self.bad(None, [], [("a", [(0, 1)] * 9 + [(1, 0)])])
        self.bad(None, [], [("a", [(0, LONG + 1), (1, 0)])])
        self.bad(None, [], [("a", []), ("a", [(0, 1)] * 9)])
        self.too_great([], [("a", [(0, 1)] * 9), ("A", [(1, 0)])])
        self.too_great([], [("a", [(0, LONG + 1)]), ("a", [])])
        self.bad(None, [("jump",)] * 30, [("a", [(1, 0)])])
        self.too_great([("jump",)], [("a", [(0, 1)] * 9)])

    # Points 14, 15 and 18: steps.

    def test_unknown_words_and_wrong_numbers_of_entries(self):
        for step in [(), [], ("jump",), ("jump", "v", 1), ("Let", "x", [], []), ("", "v", 2), ("given", "x", []),
                     ("let",), ("let", "x"), ("let", "x", []), ("let", "x", [], [], []), ("over", "x", "v"),
                     ("over", "x", "v", [1], 1), ("rest", "x", "v"), ("rest", "x", "v", [1], []), ("rest",),
                     ("read", "v"), ("read", "v", 1, 1), ("read",), ("balanced", "v"), ("balanced", "v", 1, 2),
                     ("rounds", 2), ("rounds",), ("rounds", 2, [], [])]:
            self.bad_behind(step)
            self.bad(0, [step])

    def test_wrong_numbers_of_entries_of_a_term(self):
        for term in [(), (1,), (1, "v"), (1, "v", 0, 0)]:
            self.bad_behind(let("x", term))
            self.bad_behind(let("x", (1, "v", 0), term))
            self.bad_behind(("rounds", 1, []), let("x", [*term]))

    def test_malformed_names(self):
        for name in ("", "abcdefghijklm", "A", "v1", "v ", "\u00e9"):
            self.bad_behind(let(name))
            self.bad_behind(("over", name, "v", [1]))
            self.bad_behind(("rest", name, "v", [1]))
            self.bad_behind(let("x", (1, name, 0)))
            self.bad_behind(("over", "x", name, [1]))
            self.bad_behind(("rest", "x", name, [1]))
            self.bad_behind(("read", name, 1))
            self.bad_behind(("balanced", name, 1))
        self.assertEqual(Code([], [let("abcdefghijkl")]).all_names(), ["abcdefghijkl"])

    def test_names_that_were_not_set(self):
        for step in [let("x", (1, "y", 0)), let("x", (1, "x", 0)), let("x", (1, "v", 0), (0, "y", 0)),
                     ("over", "x", "y", [1]), ("over", "x", "x", [1]), ("rest", "x", "y", [1]), ("read", "y", 1),
                     ("balanced", "y", 1)]:
            self.bad_behind(step)
        self.bad(0, [("read", "v", 1), *START])
        Code(INPUTS, [*START, let("y", (1, "v", 0)), let("x", (1, "y", 0)), ("read", "x", 1)])

    def test_inputs_are_not_set(self):
        for name in ("a", "b", "e"):
            self.bad_behind(let(name))
            self.bad_behind(("over", name, "v", [1]))
            self.bad_behind(("rest", name, "v", [1]))

    def test_variables_may_be_set_again(self):
        code = Code(INPUTS, [*START, let("v", (2, "v", 1)), ("over", "v", "v", [0, 1]), ("rest", "v", "w", [1, 1])])
        self.assertEqual((code.all_names(), code.lanes_of("v")), (["a", "b", "e", "v", "w"], 1))

    def test_shifts(self):
        self.bad_behind(let("x", (1, "v", -1)))
        self.bad_behind(let("x", (1, "v", 0), (1, "v", -10 ** 700)))
        self.assertEqual(self.lanes_set(let("x", (1, "e", 24))), 24)
        self.too_great_behind(let("x", (1, "e", 25)))
        self.too_great_behind(let("x", (1, "v", 10 ** 700)))

    def test_divisors(self):
        for word in ("over", "rest"):
            for divisor in [(), [2], [0], [1, 0], [1, -1], [1, 1, 2], [1] * 12 + [0]]:
                self.bad_behind((word, "x", "v", divisor))
            self.assertEqual(Code(INPUTS, [*START, (word, "x", "v", [-LONG] * 11 + [1])]).places(), [2])
            self.too_great_behind((word, "x", "v", [1] * 13))
            self.too_great_behind((word, "x", "v", [LONG + 1, 1]))
            self.too_great_behind((word, "x", "v", [0, -LONG - 1, 1]))

    def test_numbers_of_lanes_to_read(self):
        for word in ("read", "balanced"):
            self.assertEqual(Code(INPUTS, [*START, (word, "v", 1), (word, "e", 24)]).places(), [2, 3])
            for count in (0, -1, -10 ** 700):
                self.bad_behind((word, "v", count))
            for count in (25, 10 ** 700):
                self.too_great_behind((word, "v", count))

    def test_numbers_of_rounds(self):
        for count in (0, 1, LONG):
            self.assertEqual(Code(INPUTS, [*START, ("rounds", count, [])]).steps[2], ("rounds", count, ()))
        self.bad_behind(("rounds", -1, []))
        self.bad_behind(("rounds", -LONG - 1, []))
        self.too_great_behind(("rounds", LONG + 1, []))

    def test_integers_of_lets(self):
        code = Code(INPUTS, [let("v", (LONG, "a", 0), (-LONG, "a", 0), row=[LONG, -LONG])])
        self.assertEqual(code.steps[0][3], (LONG, -LONG))
        for number in (LONG + 1, -LONG - 1, 10 ** 5000):
            self.too_great_behind(let("x", (number, "a", 0)))
            self.too_great_behind(let("x", (1, "a", 0), (number, "a", 0)))
            self.too_great_behind(let("x", row=[number]))
            self.too_great_behind(let("x", row=[1, number]))

    def test_24_and_25_lanes(self):
        self.assertEqual(self.lanes_set(let("x", row=[0] * 24)), 24)
        self.assertEqual(self.lanes_set(let("x", (1, "a", 21))), 24)
        self.too_great_behind(let("x", row=[0] * 25))
        self.too_great_behind(let("x", (1, "a", 22)))
        self.too_great_behind(let("x", (1, "e", 24)), let("y", (0, "x", 1)))
        self.too_great_behind(("rounds", 0, [more("v", (1, "a", 22))]))
        self.assertEqual(self.lanes_set(let("x", row=[0] * 24), ("over", "x", "x", [1])), 24)

    def test_20_and_21_steps(self):
        self.assertEqual(len(Code([], [let("v")] * 20).steps), 20)
        self.too_great([let("v")] * 21)
        self.assertEqual(Code([], [let("v")] * 19 + [("read", "v", 1)]).places(), [19])

    def test_20_and_21_steps_with_the_lets_inside_of_rounds(self):
        for lets in ([more("v")], [more("v"), more("w")]):
            rounds = ("rounds", 2, lets)
            Code(INPUTS, START + [let("x")] * (17 - len(lets)) + [rounds])
            self.too_great(START + [let("x")] * (18 - len(lets)) + [rounds])
            Code(INPUTS, START + [rounds] + [let("x")] * (17 - len(lets)))
            self.too_great(START + [rounds] + [let("x")] * (18 - len(lets)))
        self.too_great(START + [("rounds", 1, [])] * 19)

    def test_step_20_is_too_great_whatever_it_is(self):
        for step in [(), ("jump",), ("read", "y", 0), ("rounds", -1, [])]:
            self.too_great([let("v")] * 20 + [step])
            self.bad(19, [let("v")] * 19 + [step, let("v")])
        self.too_great(START + [let("x")] * 17 + [("rounds", 1, [("jump",)])])
        self.bad(19, START + [let("x")] * 16 + [("rounds", 1, [("jump",), more("v")])])

    def test_order_of_errors_of_steps(self):
        self.bad_behind(let("x", (LONG + 1, "v", 25), (1, "y", 0)))
        self.bad_behind(let("a", row=[LONG + 1]))
        self.bad_behind(let("x", (1, "v", 25), (1, "v", -1)))
        self.bad_behind(("over", "x", "v", [LONG + 1] * 13))
        self.bad_behind(("rest", "x", "y", [1] * 13))
        self.bad_behind(("read", "y", 25))
        self.too_great([*START, ("read", "v", 25), ("read", "v", 0)])
        self.bad(2, [*START, ("read", "v", 0), ("read", "v", 25)])
        self.bad(2, [*START, ("read", "v", 0)] + [let("v")] * 20)

    # Point 15: lets inside of rounds.

    def bad_inside(self, place, *lets):
        self.bad(3 + place, [*START, ("rounds", 2, lets)])
        self.bad(5 + place, [*START, ("rounds", 0, [more("v")]), ("rounds", 2, lets), ("jump",)])

    def test_lets_inside_of_rounds(self):
        for lets in [[more("v")], [more("w", (3, "a", 1), (-1, "v", 2), row=[1, 2])], [more("v"), more("w")],
                     [more("v", (1, "a", 0), (2, "a", 0), (0, "b", 3)), more("w", (5, "b", 1))]]:
            code = Code(INPUTS, [*START, ("rounds", 2, lets), ("read", "v", 1)])
            self.assertEqual((len(code.steps[2][2]), code.places()), (len(lets), [3 + len(lets)]))

    def test_lets_inside_set_variables_that_were_set(self):
        for name in ("a", "e", "x", "A", ""):
            self.bad_inside(0, more(name))
            self.bad_inside(1, more("v"), more(name))

    def test_first_terms_inside(self):
        for terms in [[], [(2, "v", 0)], [(1, "w", 0)], [(1, "v", 1)], [(1, "a", 0), (1, "v", 0)], [(-1, "v", 0)],
                      [(1, "v")], [(1, "v", 0, 0)]]:
            self.bad_inside(0, let("v", *terms))
            self.bad_inside(1, more("w"), let("v", *terms))

    def test_other_terms_inside_use_no_variable_that_these_rounds_set(self):
        self.bad_inside(0, more("v", (1, "v", 0)))
        self.bad_inside(0, more("v", (2, "a", 0), (1, "v", 1)))
        self.bad_inside(0, more("v", (1, "w", 0)), more("w"))
        self.bad_inside(1, more("v"), more("w", (1, "v", 0)))
        self.bad_inside(0, more("v", (1, "w", 0)), let("w", (1, "y", -1)))
        self.bad_inside(0, more("v", (1, "x", 0)))
        code = Code(INPUTS, [*START, ("rounds", 2, [more("v", (1, "w", 0))]), ("rounds", 2, [more("w", (1, "v", 0))])])
        self.assertEqual(code.all_names(), ["a", "b", "e", "v", "w"])

    def test_malformed_lets_and_other_steps_inside_set_nothing(self):
        for step in [("over", "w", "v", [1]), ("rest", "w", "v", [1]), ("let", "w", [(1, "w", 0)]), ("let", "w"),
                     ("let", "w", [(1, "w", 0)], [], []), ("jump", "w", [], [])]:
            self.bad_inside(1, more("v", (1, "w", 0)), step)

    def test_the_later_let_that_sets_a_variable_is_refused(self):
        self.bad_inside(1, more("v"), more("v"))
        self.bad_inside(2, more("v"), more("w"), more("v", row=[1]))

    def test_other_steps_inside_are_refused(self):
        for step in [(), ("jump",), ("read", "v", 1), ("balanced", "v", 1), ("over", "v", "v", [1]), ("let",),
                     ("rest", "v", "v", [1]), ("rounds", 2, []), ("rounds", 2, [more("v")]), ("let", "v", [], [], [])]:
            self.bad_inside(0, step)
            self.bad_inside(1, more("v"), step, more("w"))

    def test_order_of_errors_of_rounds(self):
        self.bad(2, [*START, ("rounds", -1, [("jump",)])])
        self.too_great([*START, ("rounds", LONG + 1, [("jump",)])])
        self.too_great([*START, ("rounds", 1, [more("v", row=[LONG + 1]), ("jump",)])])
        self.bad(3, [*START, ("rounds", 1, [("jump",), more("v", row=[LONG + 1])])])
        self.bad_inside(0, more("v", (LONG + 1, "w", 25)), more("w"))
        self.bad_inside(1, more("v"), more("v", row=[0] * 25))
        self.too_great([*START, ("rounds", 1, [more("v", (1, "a", 25))])])
        self.too_great([*START, ("rounds", 1, [more("v"), more("w", (LONG + 1, "a", 0))])])


if __name__ == "__main__":
    unittest.main()
