import unittest

from circuits import errors

NAMES = (
    "NoPlace", "NoName", "BadText", "NoRow", "NoTable", "UnlikeSizes", "TooGreat", "NoMachine", "BadSheet",
)


class Refusals(unittest.TestCase):
    def test_the_base_stands_under_value_error(self):
        self.assertEqual(errors.CircuitError.__bases__, (ValueError,))

    def test_all_nine_stand_side_by_side_beneath_it(self):
        for name in NAMES:
            with self.subTest(name=name):
                self.assertEqual(getattr(errors, name).__bases__, (errors.CircuitError,))

    def test_there_are_no_others(self):
        classes = [name for name, thing in vars(errors).items() if isinstance(thing, type)]
        self.assertEqual(sorted(classes), sorted(NAMES + ("CircuitError",)))

    def test_each_can_be_raised_with_words_and_taken_as_a_value_error(self):
        for name in NAMES:
            with self.subTest(name=name), self.assertRaises(ValueError) as caught:
                raise getattr(errors, name)("some words")
            self.assertEqual(str(caught.exception), "some words")
