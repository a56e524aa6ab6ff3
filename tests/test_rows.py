import inspect
import unittest

from circuits import rows as module
from circuits.errors import NoRow
from circuits.rows import number_of, row_of
from tests.samples import refused_with, rows_of


class Rows(unittest.TestCase):
    def refused(self, number, many):
        refused_with(self, NoRow, row_of, number, many)

    def test_names_and_arguments(self):
        self.assertEqual(list(inspect.signature(module.row_of).parameters), ["number", "many"])
        self.assertEqual(list(inspect.signature(module.number_of).parameters), ["row"])

    def test_place_0_tells_the_greatest_part(self):
        self.assertEqual(number_of((True, False)), 2)
        self.assertEqual(row_of(2, 2), (True, False))
        self.assertEqual(row_of(1, 3), (False, False, True))
        self.assertEqual(row_of(6, 3), (True, True, False))
        self.assertEqual(number_of((False, True, True, False, True)), 13)

    def test_all_rows_of_0_to_10_places_in_order(self):
        for many in range(11):
            for number, row in enumerate(rows_of(many)):
                self.assertEqual(row_of(number, many), row)
                self.assertEqual(number_of(row), number)

    def test_first_and_last(self):
        for many in range(11):
            self.assertEqual(row_of(0, many), (False,) * many)
            self.assertEqual(row_of(2 ** many - 1, many), (True,) * many)
            self.assertEqual(number_of((False,) * many), 0)
            self.assertEqual(number_of((True,) * many), 2 ** many - 1)

    def test_no_places(self):
        self.assertEqual(row_of(0, 0), ())
        self.assertEqual(number_of(()), 0)
        self.assertIs(type(number_of(())), int)

    def test_rows_are_tuples_of_truths_and_numbers_are_whole(self):
        for number in range(8):
            row = row_of(number, 3)
            self.assertIs(type(row), tuple)
            self.assertTrue(all(truth is True or truth is False for truth in row))
            self.assertIs(type(number_of(row)), int)

    def test_no_row_beyond_the_last(self):
        for many in range(11):
            self.refused(2 ** many, many)
            self.refused(2 ** many + 1, many)
            self.refused(2 ** (many + 4), many)

    def test_no_row_below_nought(self):
        for many in range(11):
            self.refused(-1, many)
            self.refused(-2, many)
            self.refused(-(2 ** many), many)
            self.refused(-(2 ** many) - 1, many)

    def test_no_row_of_a_very_great_number(self):
        for many in (0, 1, 3, 10):
            for number in (10 ** 30, 10 ** 4299, 10 ** 4300, 10 ** 5000):
                self.refused(number, many)
                self.refused(-number, many)

    def test_somewhat_beyond_ten_places_nothing_is_refused(self):
        self.assertEqual(row_of(2 ** 12 - 1, 12), (True,) * 12)
        self.assertEqual(number_of((True,) * 12), 2 ** 12 - 1)

    def test_asked_again_the_same_is_told(self):
        self.assertEqual([row_of(5, 4), row_of(5, 4)], [(False, True, False, True)] * 2)
        self.assertEqual([number_of((True, True)), number_of((True, True))], [3, 3])
