"""Points 2 and 9: boxes, forms and their corners."""

import itertools
import random
import unittest

import plain
from packedlanes.boxes import Box, Form
from packedlanes.errors import EmptyRange, WrongLength

THIRTY = 10 ** 30 - 1


def points_of(box):
    return list(itertools.product(*[range(least, greatest + 1) for least, greatest in box.ranges]))


def worth(form, point):
    return sum(number * part for number, part in zip(form.numbers, point)) + form.base


def samples(seed, count, most=3):
    """Boxes with few points, and two forms for each, which are often nearly the same."""
    source = random.Random(seed)
    told = []
    for _ in range(count):
        leasts = [source.randint(-3, 3) for _ in range(source.randint(0, most))]
        box = Box([(least, least + source.choice((0, 0, 1, 2, 3))) for least in leasts])
        numbers = [source.randint(-2, 2) for _ in leasts]
        other = [number + source.choice((0, 0, 0, 1, -3)) for number in numbers]
        base = source.randint(-5, 5)
        drift = sum((number - more) * least for number, more, least in zip(numbers, other, leasts))
        told.append((box, Form(numbers, base), Form(other, base + drift * source.choice((0, 1)))))
    return told


class BoxTest(plain.Case):
    def test_example(self):
        box = Box([(0, 5), (-1, 1), (2, 2)])
        form = Form([1, -3, 0], 10)
        self.assertEqual([form.ends(box), form.lowest_point(box), form.highest_point(box), box.amount(),
                          form.agrees(Form([1, -3, 7], -4), box)], [(7, 18), (0, 1, 2), (5, -1, 2), 18, None])

    def test_ranges_are_a_tuple_of_pairs(self):
        for told in ([(0, 5), (-1, 1)], ((0, 5), (-1, 1)), [[0, 5], [-1, 1]], ([0, 5], (-1, 1))):
            self.assertEqual(Box(told).ranges, ((0, 5), (-1, 1)))
        self.assertEqual(Box([]).ranges, ())
        self.assertEqual(Box(()).ranges, ())

    def test_lists_are_copied(self):
        inner = [0, 5]
        told = [inner, (1, 2)]
        box = Box(told)
        inner[1] = -9
        told.append((3, 3))
        self.assertEqual((box.ranges, box.amount()), (((0, 5), (1, 2)), 12))

    def test_empty_range(self):
        self.refused(EmptyRange, "number", 0, Box, [(1, 0)])
        self.refused(EmptyRange, "number", 1, Box, [(0, 0), (0, -1), (5, 4)])
        self.refused(EmptyRange, "number", 2, Box, ([0, 0], [-4, 1], [THIRTY, -THIRTY], [1, 0]))

    def test_amount(self):
        self.assertEqual([Box([]).amount(), Box([(7, 7)]).amount(), Box([(-1, 1)]).amount()], [1, 1, 3])
        self.assertEqual(Box([(0, 1)] * 100).amount(), 2 ** 100)
        self.assertEqual(Box([(-THIRTY, THIRTY), (4, 4), (1, 10)]).amount(), (2 * THIRTY + 1) * 10)
        for box, _, _ in samples(1, 40):
            self.assertEqual(box.amount(), len(points_of(box)))

    def test_has(self):
        box = Box([(0, 5), (-1, 1), (2, 2)])
        for point in [(0, -1, 2), (5, 1, 2), [3, 0, 2]]:
            self.assertIs(box.has(point), True)
        for point in [(-1, 0, 2), (6, 0, 2), (0, -2, 2), (0, 2, 2), (0, 0, 1), (0, 0, 3), [0, 0, -2]]:
            self.assertIs(box.has(point), False)

    def test_has_no_point_of_another_length(self):
        box = Box([(0, 5), (0, 5)])
        for point in [(), (1,), (1, 1, 1), [0, 0, 0, 0]]:
            self.assertIs(box.has(point), False)
        self.assertIs(Box([]).has(()), True)
        self.assertIs(Box([]).has((0,)), False)


class FormTest(plain.Case):
    def test_attributes(self):
        form = Form([1, 0, -2, 0], 7)
        self.assertEqual((form.numbers, form.base), ((1, 0, -2, 0), 7))
        self.assertEqual((Form((3,)).numbers, Form((3,)).base), ((3,), 0))
        self.assertEqual((Form([]).numbers, Form(numbers=[2], base=-1).base), ((), -1))

    def test_lists_are_copied(self):
        told = [1, 2]
        form = Form(told)
        told[0] = 9
        told.append(3)
        self.assertEqual((form.numbers, form.at([1, 1])), ((1, 2), 3))

    def test_sums_differences_and_multiples(self):
        one, other = Form([1, -3, 0], 10), Form((4, 3, -1), -2)
        for found, wanted in [(one + other, ((5, 0, -1), 8)), (one - other, ((-3, -6, 1), 12)),
                              (one.times(-3), ((-3, 9, 0), -30)), (one.times(0), ((0, 0, 0), 0)),
                              (Form([], 2) + Form([], 3), ((), 5)), (Form([], 2) - Form([], 3), ((), -1))]:
            self.assertIsInstance(found, Form)
            self.assertEqual((found.numbers, found.base), wanted)
        self.assertEqual((one.numbers, one.base, other.numbers, other.base), ((1, -3, 0), 10, (4, 3, -1), -2))

    def test_equal(self):
        self.assertTrue(Form([1, 2], 3) == Form((1, 2), 3))
        self.assertFalse(Form([1, 2], 3) != Form((1, 2), 3))
        for other in (Form([1, 2], 4), Form([2, 1], 3), Form([1, 2, 0], 3), Form([1], 3), ((1, 2), 3), None, 3, "form"):
            self.assertFalse(Form([1, 2], 3) == other)
            self.assertTrue(Form([1, 2], 3) != other)

    def test_at(self):
        form = Form([1, -3, 0], 10)
        self.assertEqual([form.at([0, 0, 0]), form.at((2, 1, 99)), form.at([-THIRTY, 0, 1])], [10, 9, 10 - THIRTY])
        self.assertEqual(Form([], 4).at(()), 4)

    def test_another_length_is_refused(self):
        form = Form([1, 2, 3])
        for length in (0, 1, 2, 4, 7):
            point, box, other = [0] * length, Box([(0, 1)] * length), Form([1] * length)
            for action in (lambda: form + other, lambda: form - other, lambda: form.at(point),
                           lambda: form.lowest_point(box), lambda: form.highest_point(box), lambda: form.ends(box),
                           lambda: form.agrees(other, Box([(0, 1)] * 3)), lambda: form.agrees(form, box)):
                with self.assertRaises(WrongLength) as caught:
                    action()
                self.assertEqual((caught.exception.wanted, caught.exception.length), (3, length))
        self.refused(WrongLength, "length", 1, Form([]).at, [5])
        self.refused(WrongLength, "length", 0, Form([1]).ends, Box([]))

    def test_agrees_looks_at_the_other_form_first(self):
        self.refused(WrongLength, "length", 4, Form([1]).agrees, Form([1] * 4), Box([(0, 1)] * 5))
        self.refused(WrongLength, "length", 5, Form([1]).agrees, Form([2]), Box([(0, 1)] * 5))

    def test_corners(self):
        for box, form, _ in samples(2, 150):
            worths = {point: worth(form, point) for point in points_of(box)}
            self.assertEqual(form.ends(box), (min(worths.values()), max(worths.values())))
            for point, wanted in [(form.lowest_point(box), min(worths.values())),
                                  (form.highest_point(box), max(worths.values()))]:
                self.assertIsInstance(point, tuple)
                self.assertEqual(worths[point], wanted)
                for number, part, (least, _) in zip(form.numbers, point, box.ranges):
                    if number == 0:
                        self.assertEqual(part, least)

    def test_corners_at_the_edges(self):
        box = Box([(-3, 4), (-3, 4), (-3, 4), (6, 6)])
        form = Form([0, 2, -2, -1])
        self.assertEqual([form.lowest_point(box), form.highest_point(box)], [(-3, -3, 4, 6), (-3, 4, -3, 6)])
        self.assertEqual(Form([], 5).ends(Box([])), (5, 5))
        self.assertEqual((Form([]).lowest_point(Box([])), Form([]).highest_point(Box([]))), ((), ()))
        self.assertEqual(Form([-2]).ends(Box([(-THIRTY, THIRTY)])), (-2 * THIRTY, 2 * THIRTY))

    def test_agrees_as_found_one_by_one(self):
        seen = set()
        for box, one, other in samples(3, 400):
            differing = [point for point in points_of(box) if worth(one, point) != worth(other, point)]
            found = one.agrees(other, box)
            seen.add((found is None, one == other))
            if found is None:
                self.assertEqual(differing, [])
            else:
                self.assertIsInstance(found, tuple)
                self.assertIn(found, differing)
        self.assertEqual(len(seen), 3)

    def test_agrees_at_the_edges(self):
        box = Box([(3, 3), (-2, 5)])
        self.assertIsNone(Form([0, 1]).agrees(Form([4, 1], -12), box))
        self.assertIsNotNone(Form([0, 1]).agrees(Form([4, 1]), box))
        self.assertIsNotNone(Form([0, 1]).agrees(Form([0, 2], 2), box))
        self.assertIsNone(Form([], 1).agrees(Form([], 1), Box([])))
        self.assertEqual(Form([], 1).agrees(Form([], 2), Box([])), ())

    def test_unlike_forms_that_agree_at_one_corner_or_two(self):
        box = Box([(0, 1), (0, 1)])
        one, other = Form([1, -1]), Form([0, 0])
        point = one.agrees(other, box)
        self.assertTrue(box.has(point))
        self.assertNotEqual(one.at(point), other.at(point))


if __name__ == "__main__":
    unittest.main()
