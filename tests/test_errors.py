import copy
import unittest

from packedlanes import errors

ARGUMENTS = {
    "BadWidth": ["width"], "BadLanes": ["lanes"], "NotMonic": ["row"], "OtherWidth": ["width"],
    "NotPositive": ["number"], "Negative": ["number"], "EmptyRange": ["number"], "NegativeRange": ["number"],
    "TooManyLanes": ["lanes"], "WrongLength": ["wanted", "length"], "BadCode": ["number"], "BadText": ["line"],
    "TooGreat": [], "BadInput": ["name"], "BadName": ["name"], "NoName": ["name"], "NoDigit": ["worth"],
    "NoLane": ["lane"], "UnlikeLanes": [], "NothingToUndo": [], "BadCount": ["count"], "NoRounds": ["number"],
    "OtherInputs": [], "OtherReads": ["number"],
}


class Unshown:
    def __str__(self):
        raise RuntimeError("no text")

    __repr__ = __str__
    __format__ = None


class ErrorsTest(unittest.TestCase):
    def test_all_listed_classes_and_no_others(self):
        told = [name for name, worth in vars(errors).items() if isinstance(worth, type)]
        self.assertEqual(sorted(told), sorted(["LanesError", *ARGUMENTS]))

    def test_base_class(self):
        self.assertEqual(errors.LanesError.__bases__, (ValueError,))
        self.assertIsInstance(errors.LanesError(), ValueError)

    def test_all_others_are_direct_subclasses(self):
        for name in ARGUMENTS:
            with self.subTest(name):
                self.assertEqual(getattr(errors, name).__bases__, (errors.LanesError,))

    def test_arguments_are_attributes_by_position_and_by_keyword(self):
        for name, arguments in ARGUMENTS.items():
            with self.subTest(name):
                worths = [object() for _ in arguments]
                for error in (getattr(errors, name)(*worths), getattr(errors, name)(**dict(zip(arguments, worths)))):
                    self.assertEqual(sorted(vars(error)), sorted(arguments))
                    for argument, worth in zip(arguments, worths):
                        self.assertIs(getattr(error, argument), worth)

    def test_any_values_can_be_told(self):
        for worth in (None, -(10 ** 6000), 10 ** 6000, [1], "", (), Unshown(), "{} %s \n", 1.5, {}):
            for name, arguments in ARGUMENTS.items():
                error = getattr(errors, name)(*[worth for _ in arguments])
                self.assertIsInstance(str(error), str)
                self.assertIsInstance(repr(error), str)
                for argument in arguments:
                    self.assertIs(getattr(error, argument), worth)

    def test_other_numbers_of_arguments_are_refused(self):
        for name, arguments in ARGUMENTS.items():
            with self.subTest(name), self.assertRaises(TypeError):
                getattr(errors, name)(*range(len(arguments) + 1))

    def test_caught_as_base(self):
        with self.assertRaises(errors.LanesError) as caught:
            raise errors.WrongLength(3, 5)
        self.assertEqual((caught.exception.wanted, caught.exception.length), (3, 5))

    def test_a_list_is_kept_as_it_is(self):
        row = [1, 2]
        self.assertIs(errors.NotMonic(row).row, row)
        self.assertEqual(copy.copy(errors.BadWidth(7)).width, 7)


if __name__ == "__main__":
    unittest.main()
