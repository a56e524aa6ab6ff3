import unittest
from itertools import product
from random import Random

from circuits import tables as module
from circuits.errors import NoPlace, NoTable, UnlikeSizes
from circuits.forms import places_in, value
from circuits.notes import read, shown
from circuits.tables import form_of_table, half, parting, places_of, table
from tests.samples import (
    TWELVE, arguments_are, chance_forms, deep_left, depth, hangs_on, is_form, leaves_alone, long_form, most_brackets,
    refused_with, rows_of, tuples,
)

A, B, C = ("at", 0), ("at", 1), ("at", 2)
YES, NO = ("is", True), ("is", False)
F, T = False, True
NO_LENGTHS = [n for n in range(1100) if n & (n - 1) or n == 0] + [2048, 4096]


def chance_table(random, many):
    return [random.randrange(2) == 1 for number in range(1 << many)]


def odd_table(many):
    return [bin(number).count("1") % 2 == 1 for number in range(1 << many)]


def spread_table(random, many, places):
    """A table of many places that hangs on some of them at most."""
    inner = chance_table(random, len(places))
    return [inner[int("0" + "".join(str(int(row[place])) for place in places), 2)] for row in rows_of(many)]


class Interface(unittest.TestCase):
    def test_names_and_arguments(self):
        arguments_are(self, module, {
            "table": ["form", "many"], "places_of": ["table"], "half": ["table", "place", "truth"],
            "parting": ["table", "other"], "form_of_table": ["table"],
        })


class Table(unittest.TestCase):
    def test_by_the_rows_numbers(self):
        self.assertEqual(table(A, 2), [F, F, T, T])
        self.assertEqual(table(B, 2), [F, T, F, T])
        self.assertEqual(table(("and", A, ("not", B)), 2), [F, F, T, F])
        self.assertEqual(table(A, 1), [F, T])

    def test_no_place(self):
        self.assertEqual(table(YES, 0), [T])
        self.assertEqual(table(("odd", YES, YES), 0), [F])

    def test_it_is_the_forms_values(self):
        for many in range(6):
            for form in chance_forms(41 + many, 25, many, 6):
                wanted = [value(form, row) for row in rows_of(many)]
                told = table(form, many)
                self.assertEqual(told, wanted)
                self.assertTrue(all(truth is True or truth is False for truth in told))
                self.assertIs(type(told), list)

    def test_ten_places(self):
        form = deep_left(10)
        self.assertEqual(table(form, 10), [value(form, row) for row in rows_of(10)])
        self.assertEqual(table(("at", 9), 10), [number % 2 == 1 for number in range(1024)])
        self.assertEqual(table(("at", 0), 10), [number >= 512 for number in range(1024)])

    def test_more_places_than_the_form_has(self):
        self.assertEqual(table(NO, 3), [F] * 8)
        self.assertEqual(table(B, 3), [F, F, T, T, F, F, T, T])

    def test_somewhat_beyond_ten_nothing_is_refused(self):
        self.assertEqual(table(("at", 10), 11), [number % 2 == 1 for number in range(2048)])

    def test_places_from_many_on(self):
        for many in range(11):
            refused_with(self, NoPlace, table, ("at", many), many)
            refused_with(self, NoPlace, table, ("or", YES, ("and", NO, ("at", many))), many)
            refused_with(self, NoPlace, table, ("odd", ("at", many + 3), NO), many)
            refused_with(self, NoPlace, table, ("at", -1), many)
        refused_with(self, NoPlace, table, ("at", 10 ** 5000), 3)
        refused_with(self, NoPlace, table, long_form(), 10)


class PlacesOf(unittest.TestCase):
    def test_all_lengths(self):
        for many in range(11):
            self.assertEqual(places_of([T] * (1 << many)), many)
            self.assertIs(type(places_of([F] * (1 << many))), int)

    def test_other_lengths(self):
        for length in NO_LENGTHS:
            refused_with(self, NoTable, places_of, [F] * length)


class Half(unittest.TestCase):
    def test_ordinary(self):
        truths = [F, F, T, T, F, T, F, T]
        self.assertEqual(half(truths, 0, F), [F, F, T, T])
        self.assertEqual(half(truths, 0, T), [F, T, F, T])
        self.assertEqual(half(truths, 1, F), [F, F, F, T])
        self.assertEqual(half(truths, 1, T), [T, T, F, T])
        self.assertEqual(half(truths, 2, F), [F, T, F, F])
        self.assertEqual(half(truths, 2, T), [F, T, T, T])

    def test_of_one_place(self):
        self.assertEqual(half([F, T], 0, F), [F])
        self.assertEqual(half([F, T], 0, T), [T])

    def test_against_rows(self):
        random = Random(43)
        for many in (1, 2, 4, 5, 10):
            truths = chance_table(random, many)
            for place, truth in product(range(many), (F, T)):
                wanted = [told for told, row in zip(truths, rows_of(many)) if row[place] is truth]
                self.assertEqual(half(truths, place, truth), wanted)

    def test_places_that_it_has_not(self):
        for many in range(11):
            for place in (-1, -many, many, many + 1, 10 ** 5000, -(10 ** 5000)):
                if place < 0 or place >= many:
                    refused_with(self, NoPlace, half, [T] * (1 << many), place, F)

    def test_no_table_ahead_of_no_place(self):
        for length in (0, 3, 5, 1023, 1025, 2048):
            for place in (0, -1, 99):
                refused_with(self, NoTable, half, [T] * length, place, T)


class Parting(unittest.TestCase):
    def test_the_least_row(self):
        self.assertEqual(parting([F, T, F, T], [F, T, T, F]), 2)
        self.assertEqual(parting([T], [F]), 0)
        self.assertIsNone(parting([T], [T]))
        self.assertIsNone(parting([F, T], [F, T]))

    def test_each_row_of_each_size(self):
        random = Random(47)
        for many in (0, 1, 3, 4, 10):
            truths = chance_table(random, many)
            self.assertIsNone(parting(truths, list(truths)))
            for number in range(0, 1 << many, 1 if many < 10 else 31):
                other = truths[:number] + [not truth for truth in truths[number:]]
                self.assertEqual(parting(truths, other), number)
                self.assertEqual(parting(other, truths), number)
                other = truths[:number] + [not truths[number]] + truths[number + 1:]
                self.assertEqual(parting(truths, other), number)

    def test_no_table_of_either_then_unlike_sizes(self):
        for length in (0, 3, 6, 1000, 2048):
            refused_with(self, NoTable, parting, [T] * length, [T])
            refused_with(self, NoTable, parting, [T], [T] * length)
            refused_with(self, NoTable, parting, [T] * length, [T] * length)
        refused_with(self, NoTable, parting, [T] * 4, [T] * 3)
        refused_with(self, UnlikeSizes, parting, [T], [T, T])
        refused_with(self, UnlikeSizes, parting, [T] * 1024, [T] * 512)


class FormOfTable(unittest.TestCase):
    def check(self, truths, many):
        form = form_of_table(truths)
        self.assertTrue(is_form(form))
        self.assertEqual(table(form, many), truths)
        self.assertEqual(places_in(form), hangs_on(truths, many))
        self.assertLessEqual(depth(form), 60)
        if many <= 7:
            self.assertLessEqual(tuples(form), 1000)
        text = shown(form, TWELVE)
        self.assertLessEqual(most_brackets(text), many)
        self.assertEqual(read(text, TWELVE), form)

    def test_all_tables_of_few_places(self):
        for many in range(4):
            for truths in product((F, T), repeat=1 << many):
                self.check(list(truths), many)

    def test_drawn_tables(self):
        random = Random(53)
        for many, count in ((4, 300), (5, 60), (6, 30), (7, 20), (8, 4), (10, 2)):
            for number in range(count):
                self.check(chance_table(random, many), many)

    def test_tables_with_few_that_are_true(self):
        random = Random(59)
        for many in range(1, 8):
            for number in range(20):
                truths = [F] * (1 << many)
                for turn in range(random.randrange(1, 4)):
                    truths[random.randrange(1 << many)] = T
                self.check(truths, many)
                self.check([not truth for truth in truths], many)

    def test_places_on_which_it_does_not_hang(self):
        random = Random(61)
        for many in (3, 5, 7):
            for number in range(20):
                places = [place for place in range(many) if random.randrange(2)]
                self.check(spread_table(random, many, places), many)
        self.check([F] * 1024, 10)
        self.check([T] * 1024, 10)
        self.assertEqual(places_in(form_of_table([F, F, T, T])), [0])

    def test_odds_of_all_places(self):
        for many in range(1, 11):
            self.check(odd_table(many), many)
            self.check([not truth for truth in odd_table(many)], many)

    def test_forms_are_kept_short(self):
        wanted = (
            ([F, T], "a"), ([T, F], "not a"), ([F, T, T, F], "b odd a"), ([F, F, F, T], "a and b"),
            ([F, T, T, T], "a or b"), ([T, T, F, T], "not a or b"), ([T, F, F, F], "not a and not b"),
        )
        for truths, text in wanted:
            self.assertEqual(shown(form_of_table(truths), TWELVE), text)
        self.assertEqual(tuples(form_of_table(odd_table(10))), 19)

    def test_seven_places_that_hang_on_all(self):
        majority = [bin(number).count("1") > 3 for number in range(128)]
        self.check(majority, 7)
        self.check([number * number % 7 < 3 for number in range(128)], 7)

    def test_no_table(self):
        for length in (0, 3, 5, 7, 127, 129, 1023, 1025, 2048):
            refused_with(self, NoTable, form_of_table, [T] * length)


class NothingChanges(unittest.TestCase):
    def test_what_is_handed_in_and_what_is_told(self):
        random = Random(67)
        for many in (1, 3, 5):
            truths = chance_table(random, many)
            leaves_alone(self, table, chance_forms(71, 1, many, 5)[0], many)
            leaves_alone(self, places_of, truths)
            leaves_alone(self, half, truths, many - 1, T)
            leaves_alone(self, half, [T] * (1 << many), 0, F)
            leaves_alone(self, parting, truths, [not truth for truth in truths])
            leaves_alone(self, form_of_table, truths)
