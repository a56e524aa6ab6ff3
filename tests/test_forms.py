import copy
import inspect
import unittest

from circuits import forms as module
from circuits.errors import NoPlace
from circuits.forms import places_in, put_in, value
from tests.samples import (
    JOINING, chance_forms, deep_left, deep_nots, depth, long_form, refused_with, rows_of, tuples,
)

A, B, C = ("at", 0), ("at", 1), ("at", 2)
YES, NO = ("is", True), ("is", False)


def bits(form, many):
    """The form's truth for all rows at once, as a whole number: bit n for row n."""
    whole = (1 << (1 << many)) - 1
    if form[0] == "is":
        return whole if form[1] else 0
    if form[0] == "at":
        return sum(1 << number for number in range(1 << many) if number >> (many - 1 - form[1]) & 1)
    left = bits(form[1], many)
    if form[0] == "not":
        return whole & ~left
    right = bits(form[2], many)
    return {"and": left & right, "or": left | right, "odd": left ^ right}[form[0]]


class Interface(unittest.TestCase):
    def test_names_and_arguments(self):
        for name, wanted in (("value", ["form", "row"]), ("places_in", ["form"]), ("put_in", ["form", "forms"])):
            with self.subTest(name=name):
                self.assertEqual(list(inspect.signature(getattr(module, name)).parameters), wanted)


class Value(unittest.TestCase):
    def test_plain_truths(self):
        self.assertIs(value(YES, ()), True)
        self.assertIs(value(NO, ()), False)

    def test_places(self):
        row = (True, False, True)
        self.assertIs(value(A, row), True)
        self.assertIs(value(B, row), False)
        self.assertIs(value(C, row), True)

    def test_not(self):
        self.assertIs(value(("not", A), (True,)), False)
        self.assertIs(value(("not", A), (False,)), True)

    def test_joining_words(self):
        wanted = {
            "and": [False, False, False, True],
            "or": [False, True, True, True],
            "odd": [False, True, True, False],
        }
        for word, truths in wanted.items():
            for row, truth in zip(rows_of(2), truths):
                with self.subTest(word=word, row=row):
                    self.assertIs(value((word, A, B), row), truth)

    def test_against_truths_reckoned_all_at_once(self):
        for many in (0, 1, 3, 4):
            for form in chance_forms(11 + many, 60, many, 6):
                truths = bits(form, many)
                for number, row in enumerate(rows_of(many)):
                    self.assertIs(value(form, row), truths >> number & 1 == 1, (form, row))

    def test_a_row_may_be_longer_than_needed(self):
        self.assertIs(value(("and", A, B), (True, True) + (False,) * 10), True)
        self.assertIs(value(YES, (False,) * 12), True)

    def test_all_places_from_0_to_11(self):
        for place in range(12):
            row = tuple(k == place for k in range(12))
            for other in range(12):
                self.assertIs(value(("at", other), row), other == place)

    def test_places_from_12_on(self):
        self.assertIs(value(("at", 14), (False,) * 14 + (True,)), True)

    def test_sixty_deep(self):
        self.assertEqual(depth(deep_nots()), 60)
        self.assertIs(value(deep_nots(), (True,)), False)
        self.assertIs(value(deep_nots(), (False,)), True)
        self.assertEqual(depth(deep_left(3)), 60)
        truths = bits(deep_left(3), 3)
        for number, row in enumerate(rows_of(3)):
            self.assertIs(value(deep_left(3), row), truths >> number & 1 == 1)

    def test_a_thousand_tuples(self):
        form = long_form()
        self.assertEqual(tuples(form), 1000)
        truths = bits(form, 12)
        for number, row in enumerate(rows_of(12)):
            if number % 37 == 0:
                self.assertIs(value(form, row), truths >> number & 1 == 1)

    def test_no_place(self):
        refused_with(self, NoPlace, value, A, ())
        refused_with(self, NoPlace, value, C, (True, True))
        refused_with(self, NoPlace, value, ("not", ("not", C)), (True, True))
        refused_with(self, NoPlace, value, ("at", -1), (True, True))

    def test_no_place_of_a_very_great_number(self):
        for place in (10 ** 30, 10 ** 5000, -(10 ** 5000)):
            refused_with(self, NoPlace, value, ("at", place), (True, True))
            refused_with(self, NoPlace, value, ("or", A, ("not", ("at", place))), (True, True))

    def test_no_place_whatever_the_truth_would_be(self):
        for word in JOINING:
            for truth in (YES, NO):
                refused_with(self, NoPlace, value, (word, truth, B), (True,))
                refused_with(self, NoPlace, value, (word, B, truth), (True,))
        refused_with(self, NoPlace, value, ("or", A, ("and", NO, ("not", C))), (True, True))


class PlacesIn(unittest.TestCase):
    def test_rising_and_each_once(self):
        form = ("or", ("and", ("at", 7), ("at", 2)), ("odd", ("not", ("at", 11)), ("and", ("at", 2), ("at", 7))))
        self.assertEqual(places_in(form), [2, 7, 11])

    def test_no_places(self):
        self.assertEqual(places_in(YES), [])
        self.assertEqual(places_in(("and", NO, ("not", YES))), [])

    def test_all_places(self):
        form = ("at", 11)
        for place in range(11):
            form = ("odd", ("at", (place * 5) % 11), form)
        self.assertEqual(places_in(form), list(range(12)))
        self.assertEqual(places_in(long_form()), list(range(12)))

    def test_places_on_which_nothing_hangs_count(self):
        self.assertEqual(places_in(("and", NO, ("odd", C, C))), [2])

    def test_deep(self):
        self.assertEqual(places_in(deep_nots()), [0])
        self.assertEqual(places_in(deep_left(5)), [0, 1, 2, 3, 4])

    def test_the_list_is_the_askers_own(self):
        form = ("and", A, C)
        first = places_in(form)
        first.append(9)
        self.assertEqual(places_in(form), [0, 2])
        self.assertIs(type(places_in(form)), list)


class PutIn(unittest.TestCase):
    def test_each_place_is_filled(self):
        form = ("or", ("and", A, ("not", B)), ("odd", YES, A))
        wanted = ("or", ("and", NO, ("not", ("not", C))), ("odd", YES, NO))
        self.assertEqual(put_in(form, (NO, ("not", C))), wanted)
        self.assertEqual(put_in(form, [NO, ("not", C)]), wanted)

    def test_what_is_put_in_is_not_filled_again(self):
        self.assertEqual(put_in(("and", A, B), (B, A)), ("and", B, A))

    def test_more_forms_than_needed(self):
        self.assertEqual(put_in(B, (YES, C, A)), C)
        self.assertEqual(put_in(NO, (YES,)), NO)

    def test_no_places(self):
        self.assertEqual(put_in(("not", YES), ()), ("not", YES))
        self.assertEqual(put_in(YES, []), YES)

    def test_all_places(self):
        turned = tuple(("at", 11 - place) for place in range(12))
        for place in range(12):
            self.assertEqual(put_in(("at", place), turned), ("at", 11 - place))
        self.assertEqual(put_in(put_in(long_form(), turned), turned), long_form())

    def test_its_value_is_that_for_the_row_of_values(self):
        inner = chance_forms(5, 40, 3, 4)
        for number, form in enumerate(chance_forms(6, 40, 4, 5)):
            filled = [inner[(number + k) % 40] for k in range(4)]
            for row in rows_of(3):
                wanted = value(form, tuple(value(one, row) for one in filled))
                self.assertIs(value(put_in(form, filled), row), wanted)

    def test_no_place(self):
        refused_with(self, NoPlace, put_in, A, ())
        refused_with(self, NoPlace, put_in, ("and", A, ("or", YES, ("not", C))), [A, B])
        refused_with(self, NoPlace, put_in, ("at", -1), (YES, NO))
        for place in (10 ** 30, 10 ** 5000, -(10 ** 5000)):
            refused_with(self, NoPlace, put_in, ("and", A, ("at", place)), (YES, NO))

    def test_sixty_deep(self):
        self.assertEqual(put_in(deep_left(2), (A, B)), deep_left(2))
        self.assertEqual(depth(put_in(deep_nots(), (C,))), 60)

    def test_the_list_handed_in_is_neither_changed_nor_kept(self):
        filled = [B, ("not", A)]
        before = copy.deepcopy(filled)
        answer = put_in(("and", A, B), filled)
        self.assertEqual(filled, before)
        filled[0] = NO
        self.assertEqual(answer, ("and", B, ("not", A)))

    def test_it_is_a_tuple_throughout(self):
        def all_tuples(form):
            return type(form) is tuple and all(all_tuples(part) for part in form[1:] if type(part) not in (bool, int))
        self.assertTrue(all_tuples(put_in(long_form(), [deep_left(3)] * 12)))


class AskedAgain(unittest.TestCase):
    def test_the_same_is_told(self):
        for form in chance_forms(17, 20, 3, 5):
            for row in rows_of(3):
                self.assertIs(value(form, row), value(copy.deepcopy(form), row))
            self.assertEqual(places_in(form), places_in(copy.deepcopy(form)))
            self.assertEqual(put_in(form, [C, A, B]), put_in(copy.deepcopy(form), [C, A, B]))
