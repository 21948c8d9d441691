"""The inputs of a code as points of a box (points 22 and 34)."""

import plain
from packedlanes.boxes import Box
from packedlanes.codes import Code
from packedlanes.places import box_of, given_of
from packedlanes.runs import meaning

CODE = Code([("b", [(0, 3), (-2, -1)]), ("e", []), ("a", [(5, 5)])], [])


class PlacesTest(plain.Case):
    def test_given_of(self):
        for point in ([1, -2, 5], (1, -2, 5)):
            given = given_of(CODE, point)
            self.assertEqual(given, {"b": (1, -2), "e": (), "a": (5,)})
            self.assertEqual(list(given), ["b", "e", "a"])
            self.assertEqual([type(lanes) for lanes in given.values()], [tuple] * 3)
        self.assertEqual(given_of(Code([], []), []), {})
        self.assertEqual(given_of(Code([("e", []), ("d", [])], []), ()), {"e": (), "d": ()})

    def test_box_of(self):
        box = box_of(CODE)
        self.assertIsInstance(box, Box)
        self.assertEqual(box.ranges, ((0, 3), (-2, -1), (5, 5)))
        self.assertEqual(box_of(Code([], [])).ranges, ())

    def test_points_of_the_box_are_the_inputs(self):
        for code in plain.codes_of(3, 60):
            box = box_of(code)
            inputs = list(plain.inputs_of(code))
            self.assertEqual(box.amount(), len(inputs))
            for given in inputs:
                point = [worth for lanes in given.values() for worth in lanes]
                self.assertTrue(box.has(point))
                self.assertEqual(given_of(code, point), given)
                meaning(code, given_of(code, point))

    def test_numbers_are_not_looked_at(self):
        self.assertEqual(given_of(CODE, [10 ** 700, 9, -1]), {"b": (10 ** 700, 9), "e": (), "a": (-1,)})

    def test_what_is_returned_is_new(self):
        given = given_of(CODE, [1, -2, 5])
        given.clear()
        self.assertEqual(given_of(CODE, [1, -2, 5])["a"], (5,))


if __name__ == "__main__":
    plain.unittest.main()
