import unittest
from itertools import product
from random import Random

from circuits import graphing as module
from circuits.errors import NoPlace
from circuits.forms import put_in, value
from circuits.graphing import first_true, halved, how_many, joined, turned
from tests.samples import (
    JOINING, arguments_are, chance_forms, leaves_alone, refused_with, rows_of, same_kind,
)
from tests.test_graphs import truths_of, wanted_graph
from tests.test_tables import chance_table

A, B, C = ("at", 0), ("at", 1), ("at", 2)
F, T = False, True
ENDS = (([], 0), ([], 1))


def graph_of(form, many):
    return wanted_graph(truths_of(form, many))


def with_held(form, place, truth):
    return put_in(form, [("is", truth) if k == place else ("at", k) for k in range(12)])


class Interface(unittest.TestCase):
    def test_names_and_arguments(self):
        arguments_are(self, module, {
            "turned": ["graph"], "joined": ["word", "graph", "other"], "halved": ["graph", "place", "truth"],
            "how_many": ["graph", "many"], "first_true": ["graph", "many"],
        })


class Turned(unittest.TestCase):
    def test_ends(self):
        self.assertTrue(same_kind(turned(([], 0)), ([], 1)))
        self.assertTrue(same_kind(turned(([], 1)), ([], 0)))

    def test_written_out(self):
        self.assertEqual(turned(([(1, 0, 1), (0, 0, 2)], 3)), ([(1, 1, 0), (0, 1, 2)], 3))

    def test_drawn_graphs(self):
        for many in (1, 3, 5):
            for form in chance_forms(181 + many, 40, many, 6):
                self.assertTrue(same_kind(turned(graph_of(form, many)), graph_of(("not", form), many)))
        for form in chance_forms(191, 4, 12, 7):
            self.assertEqual(turned(turned(graph_of(form, 12))), graph_of(form, 12))


class Joined(unittest.TestCase):
    def test_all_pairs_of_two_places(self):
        tables = [list(truths) for truths in product((F, T), repeat=4)]
        for one, two in product(tables, tables):
            pairs = list(zip(one, two))
            wanted = {
                "and": [a and b for a, b in pairs], "or": [a or b for a, b in pairs], "odd": [a != b for a, b in pairs],
            }
            for word in JOINING:
                told = joined(word, wanted_graph(one), wanted_graph(two))
                self.assertTrue(same_kind(told, wanted_graph(wanted[word])))

    def test_ends(self):
        some = graph_of(("odd", A, ("and", B, C)), 3)
        self.assertEqual(joined("and", some, ([], 1)), some)
        self.assertEqual(joined("and", ([], 1), some), some)
        self.assertEqual(joined("and", some, ([], 0)), ([], 0))
        self.assertEqual(joined("or", ([], 0), some), some)
        self.assertEqual(joined("or", some, ([], 1)), ([], 1))
        self.assertEqual(joined("odd", some, ([], 0)), some)
        self.assertEqual(joined("odd", ([], 1), some), turned(some))
        self.assertEqual(joined("odd", some, some), ([], 0))
        for word, one, two in product(JOINING, (F, T), (F, T)):
            wanted = value((word, ("is", one), ("is", two)), ())
            self.assertTrue(same_kind(joined(word, ENDS[one], ENDS[two]), ENDS[wanted]))

    def test_drawn_graphs(self):
        for many in (3, 5, 7):
            forms = chance_forms(193 + many, 60, many, 6)
            for one, two in zip(forms[::2], forms[1::2]):
                for word in JOINING:
                    told = joined(word, graph_of(one, many), graph_of(two, many))
                    self.assertTrue(same_kind(told, graph_of((word, one, two), many)))

    def test_places_of_one_alone(self):
        for word in JOINING:
            for one, two in (((A, B)), (("at", 2), ("at", 11)), (("at", 11), ("odd", A, ("at", 7)))):
                told = joined(word, graph_of(one, 12), graph_of(two, 12))
                self.assertEqual(told, graph_of((word, one, two), 12))


class Halved(unittest.TestCase):
    def test_written_out(self):
        both = ([(1, 0, 1), (0, 0, 2)], 3)
        self.assertEqual(halved(both, 0, T), ([(1, 0, 1)], 2))
        self.assertEqual(halved(both, 0, F), ([], 0))
        self.assertEqual(halved(both, 1, T), ([(0, 0, 1)], 2))
        self.assertEqual(halved(both, 1, F), ([], 0))

    def test_places_that_it_has(self):
        for many in (1, 3, 5):
            for form in chance_forms(197 + many, 40, many, 6):
                for place, truth in product(range(many), (F, T)):
                    wanted = graph_of(with_held(form, place, truth), many)
                    self.assertTrue(same_kind(halved(graph_of(form, many), place, truth), wanted))

    def test_places_that_it_has_not(self):
        for form in chance_forms(199, 40, 4, 5) + [("odd", A, C)]:
            some = graph_of(form, 4)
            places = [place for place in range(14) if place not in [node[0] for node in some[0]]]
            for place in places + [100, 10 ** 30, 10 ** 5000]:
                for truth in (F, T):
                    self.assertTrue(same_kind(halved(some, place, truth), some))
        for place in (0, 5):
            self.assertTrue(same_kind(halved(([], 0), place, T), ([], 0)))
            self.assertTrue(same_kind(halved(([], 1), place, F), ([], 1)))

    def test_twelve_places(self):
        for form in chance_forms(211, 3, 12, 7):
            for place in range(0, 12, 3):
                self.assertEqual(halved(graph_of(form, 12), place, T), graph_of(with_held(form, place, T), 12))


class HowMany(unittest.TestCase):
    def test_drawn_graphs(self):
        random = Random(223)
        for many in (0, 1, 2, 4, 6):
            for turn in range(25):
                truths = chance_table(random, many)
                for more in (0, 1, 3):
                    told = how_many(wanted_graph(truths), many + more)
                    self.assertEqual(told, sum(truths) * 2 ** more)
                    self.assertIs(type(told), int)

    def test_few_that_are_true(self):
        for many in (1, 3, 5):
            for number in range(1 << many):
                some = wanted_graph([k == number for k in range(1 << many)])
                self.assertEqual(how_many(some, many), 1)
                self.assertEqual(how_many(some, 12), 1 << (12 - many))

    def test_ends(self):
        for many in range(13):
            self.assertEqual(how_many(([], 0), many), 0)
            self.assertEqual(how_many(([], 1), many), 2 ** many)

    def test_twelve_places(self):
        for form in chance_forms(227, 6, 12, 7) + [("at", 11)]:
            truths = truths_of(form, 12)
            self.assertEqual(how_many(wanted_graph(truths), 12), sum(truths))

    def test_no_place(self):
        refused_with(self, NoPlace, how_many, ([(0, 0, 1)], 2), 0)
        some = graph_of(("or", A, ("at", 3)), 4)
        for many in range(4):
            refused_with(self, NoPlace, how_many, some, many)
        self.assertEqual(how_many(some, 4), 12)
        refused_with(self, NoPlace, how_many, graph_of(("at", 11), 12), 11)


class FirstTrue(unittest.TestCase):
    def test_all_tables_of_few_places(self):
        for many in range(4):
            for truths in product((F, T), repeat=1 << many):
                wanted = [row for row, truth in zip(rows_of(many), truths) if truth]
                told = first_true(wanted_graph(truths), many)
                self.assertTrue(same_kind(told, wanted[0] if wanted else None))

    def test_drawn_graphs(self):
        random = Random(229)
        for many in (4, 6):
            for turn in range(60):
                truths = [random.randrange(turn % 9 + 2) == 0 for number in range(1 << many)]
                for more in (0, 1, 3):
                    wanted = [row + (F,) * more for row, truth in zip(rows_of(many), truths) if truth]
                    told = first_true(wanted_graph(truths), many + more)
                    self.assertEqual(told, wanted[0] if wanted else None)

    def test_ends(self):
        for many in range(13):
            self.assertIsNone(first_true(([], 0), many))
            self.assertTrue(same_kind(first_true(([], 1), many), (F,) * many))

    def test_twelve_places(self):
        for form in chance_forms(233, 6, 12, 7) + [("at", 11), ("and", ("at", 0), ("at", 11))]:
            wanted = [row for row in rows_of(12) if value(form, row)]
            self.assertEqual(first_true(graph_of(form, 12), 12), wanted[0] if wanted else None)

    def test_no_place(self):
        refused_with(self, NoPlace, first_true, ([(0, 0, 1)], 2), 0)
        for many in range(3):
            refused_with(self, NoPlace, first_true, graph_of(("and", A, C), 3), many)
            refused_with(self, NoPlace, first_true, graph_of(("or", A, C), 3), many)
        refused_with(self, NoPlace, first_true, graph_of(("at", 11), 12), 11)


class NothingChanges(unittest.TestCase):
    def test_what_is_handed_in_and_what_is_told(self):
        forms = chance_forms(239, 20, 4, 5)
        for one, two in zip(forms[::2], forms[1::2]):
            first, second = graph_of(one, 4), graph_of(two, 4)
            leaves_alone(self, turned, first)
            for word in JOINING:
                leaves_alone(self, joined, word, first, second)
                leaves_alone(self, joined, word, first, first)
                leaves_alone(self, joined, word, first, ([], 1))
                leaves_alone(self, joined, word, ([], 0), second)
            leaves_alone(self, halved, first, 1, T)
            leaves_alone(self, halved, first, 9, F)
            leaves_alone(self, how_many, first, 5)
            leaves_alone(self, first_true, first, 5)
