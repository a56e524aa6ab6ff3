import unittest
from itertools import product
from random import Random

from circuits import graphs as module
from circuits.errors import NoPlace, NoTable
from circuits.forms import places_in, value
from circuits.graphs import form_of_graph, graph, graph_of_table, walked
from circuits.notes import read, shown
from tests.samples import (
    TWELVE, arguments_are, chance_forms, deep_left, deep_nots, depth, hangs_on, is_form, leaves_alone, long_form,
    most_brackets, refused_with, rows_of, same_kind, tuples,
)
from tests.test_tables import NO_LENGTHS, chance_table, odd_table, spread_table

A, B, C = ("at", 0), ("at", 1), ("at", 2)
YES, NO = ("is", True), ("is", False)
F, T = False, True


def wanted_graph(truths):
    """By the parts of a table: each part that hangs on its first place is a node, behind those of its halves."""
    nodes, numbers = [], {}

    def visit(place, part):
        middle = len(part) // 2
        if len(part) == 1:
            return int(part[0])
        if part[:middle] == part[middle:]:
            return visit(place + 1, part[:middle])
        if (place, part) not in numbers:
            low, high = visit(place + 1, part[:middle]), visit(place + 1, part[middle:])
            nodes.append((place, low, high))
            numbers[place, part] = len(nodes) + 1
        return numbers[place, part]

    first = visit(0, tuple(truths))
    return (nodes, first)


def truths_of(form, many):
    return [value(form, row) for row in rows_of(many)]


class Interface(unittest.TestCase):
    def test_names_and_arguments(self):
        arguments_are(self, module, {
            "graph": ["form"], "graph_of_table": ["table"], "walked": ["graph", "row"], "form_of_graph": ["graph"],
        })


class Graph(unittest.TestCase):
    def kept_least(self, told):
        nodes, first = told
        self.assertEqual(len(set(nodes)), len(nodes))
        order = []

        def visit(number):
            if number > 1 and number not in order:
                place, low, high = nodes[number - 2]
                self.assertNotEqual(low, high)
                for end in (low, high):
                    if end > 1:
                        self.assertGreater(nodes[end - 2][0], place)
                    visit(end)
                order.append(number)

        visit(first)
        self.assertEqual(order, list(range(2, len(nodes) + 2)))

    def test_written_out(self):
        self.assertEqual(graph(A), ([(0, 0, 1)], 2))
        self.assertEqual(graph(("not", C)), ([(2, 1, 0)], 2))
        self.assertEqual(graph(("and", A, B)), ([(1, 0, 1), (0, 0, 2)], 3))
        self.assertEqual(graph(("or", A, B)), ([(1, 0, 1), (0, 2, 1)], 3))
        self.assertEqual(graph(("odd", A, B)), ([(1, 0, 1), (1, 1, 0), (0, 2, 3)], 4))

    def test_low_ahead_of_high(self):
        form = ("or", ("and", ("not", A), C), ("and", A, ("and", B, ("at", 3))))
        self.assertEqual(graph(form), ([(2, 0, 1), (3, 0, 1), (1, 0, 3), (0, 2, 4)], 5))
        form = ("or", ("and", A, C), ("and", ("not", A), ("and", B, ("at", 3))))
        self.assertEqual(graph(form), ([(3, 0, 1), (1, 0, 2), (2, 0, 1), (0, 3, 4)], 5))

    def test_a_node_that_is_come_to_twice_stands_once(self):
        form = ("odd", ("odd", A, B), C)
        self.assertEqual(graph(form), ([(2, 0, 1), (2, 1, 0), (1, 2, 3), (1, 3, 2), (0, 4, 5)], 6))

    def test_one_truth_for_all_rows(self):
        for form in (YES, ("or", A, ("not", A)), ("not", ("odd", C, C)), ("or", B, YES), ("not", NO)):
            self.assertTrue(same_kind(graph(form), ([], 1)))
            self.assertTrue(same_kind(graph(("not", form)), ([], 0)))

    def test_places_on_which_nothing_hangs(self):
        self.assertEqual(graph(("or", ("and", A, B), ("and", ("not", A), B))), ([(1, 0, 1)], 2))
        self.assertEqual(graph(("odd", ("odd", A, C), A)), ([(2, 0, 1)], 2))

    def test_kinds(self):
        told = graph(("odd", A, ("and", B, C)))
        self.assertIs(type(told), tuple)
        self.assertIs(type(told[0]), list)
        self.assertIs(type(told[1]), int)
        for node in told[0]:
            self.assertIs(type(node), tuple)
            self.assertEqual([type(part) for part in node], [int] * 3)

    def test_drawn_forms(self):
        for many in range(7):
            for form in chance_forms(131 + many, 60, many, 6):
                told = graph(form)
                self.kept_least(told)
                self.assertEqual(told, wanted_graph(truths_of(form, many)))

    def test_all_places(self):
        for form in chance_forms(137, 8, 12, 8) + [deep_left(12, 5), deep_left(11), long_form(), deep_nots()]:
            told = graph(form)
            self.kept_least(told)
            self.assertEqual(told, wanted_graph(truths_of(form, 12)))

    def test_odds_of_very_many_places(self):
        form = ("at", 0)
        for place in range(1, 26):
            form = ("odd", form, ("at", place))
        told = graph(form)
        self.kept_least(told)
        self.assertEqual(len(told[0]), 51)
        self.assertIs(walked(told, (T, F) * 13), True)
        self.assertIs(walked(told, (T, F) * 12 + (F, F)), False)

    def test_places_from_12_on(self):
        form = ("is", True)
        for place in range(25, -1, -1):
            form = ("and", form, ("at", place))
        told = graph(form)
        self.kept_least(told)
        wanted = [(25, 0, 1)] + [(24 - step, 0, step + 2) for step in range(25)]
        self.assertEqual(told, (wanted, 27))


class GraphOfTable(unittest.TestCase):
    def test_all_tables_of_few_places(self):
        for many in range(4):
            for truths in product((F, T), repeat=1 << many):
                told = graph_of_table(list(truths))
                self.assertTrue(same_kind(told, wanted_graph(truths)))

    def test_drawn_tables(self):
        random = Random(139)
        for many in (4, 5, 6, 8, 10):
            for turn in range(6):
                truths = chance_table(random, many)
                self.assertEqual(graph_of_table(truths), wanted_graph(truths))
                places = [place for place in range(many) if random.randrange(2)]
                truths = spread_table(random, many, places)
                self.assertEqual(graph_of_table(truths), wanted_graph(truths))
        self.assertEqual(graph_of_table(odd_table(10)), wanted_graph(odd_table(10)))

    def test_no_place_and_ten(self):
        self.assertTrue(same_kind(graph_of_table([T]), ([], 1)))
        self.assertTrue(same_kind(graph_of_table([F]), ([], 0)))
        self.assertEqual(graph_of_table([F] * 1024), ([], 0))
        self.assertEqual(graph_of_table([T] * 1024), ([], 1))
        self.assertEqual(graph_of_table([F, T] * 512), ([(9, 0, 1)], 2))
        self.assertEqual(graph_of_table([T] * 512 + [F] * 512), ([(0, 1, 0)], 2))

    def test_forms_of_equal_tables_have_equal_graphs(self):
        forms = chance_forms(149, 400, 3, 5)
        seen = {}
        for form in forms:
            truths = tuple(truths_of(form, 3))
            self.assertEqual(graph(form), graph_of_table(list(truths)))
            self.assertEqual(seen.setdefault(truths, graph(form)), graph(form))
        self.assertLess(len(seen), 200)
        self.assertEqual(len({str(told) for told in seen.values()}), len(seen))

    def test_places_beyond_count_for_nothing(self):
        for form in chance_forms(151, 40, 3, 5):
            for many in (3, 4, 6):
                self.assertEqual(graph_of_table(truths_of(form, many)), graph(form))

    def test_no_table(self):
        for length in NO_LENGTHS[::17] + [0, 3, 5, 1023, 1025, 2048]:
            refused_with(self, NoTable, graph_of_table, [T] * length)


class Walked(unittest.TestCase):
    def test_all_rows(self):
        for many in range(6):
            for form in chance_forms(157 + many, 30, many, 5):
                told = graph(form)
                for row in rows_of(many):
                    self.assertIs(walked(told, row), value(form, row))

    def test_a_longer_row(self):
        self.assertIs(walked(([(1, 0, 1)], 2), (F, T, F, F)), True)
        self.assertIs(walked(([], 1), (F,) * 12), True)
        self.assertIs(walked(([], 0), ()), False)
        self.assertIs(walked(([], 1), ()), True)

    def test_no_place(self):
        told = graph(("or", A, C))
        for row in ((), (T,), (T, T), (F, F)):
            refused_with(self, NoPlace, walked, told, row)
        self.assertIs(walked(told, (T, F, F)), True)
        refused_with(self, NoPlace, walked, graph(("at", 11)), (T,) * 11)


class FormOfGraph(unittest.TestCase):
    def check(self, truths, many):
        told = wanted_graph(truths)
        form = form_of_graph(told)
        self.assertTrue(is_form(form))
        self.assertEqual(truths_of(form, many), list(truths))
        self.assertEqual(places_in(form), hangs_on(truths, many))
        self.assertLessEqual(depth(form), 60)
        places = len(places_in(form))
        if places <= 7:
            self.assertLessEqual(tuples(form), 1000)
        text = shown(form, TWELVE)
        self.assertLessEqual(most_brackets(text), places)
        self.assertEqual(read(text, TWELVE), form)
        self.assertEqual(graph(form), told)

    def test_all_graphs_of_few_places(self):
        for many in range(4):
            for truths in product((F, T), repeat=1 << many):
                self.check(truths, many)

    def test_drawn_graphs(self):
        random = Random(163)
        for many, count in ((4, 200), (5, 40), (6, 20), (7, 20), (9, 3)):
            for turn in range(count):
                self.check(chance_table(random, many), many)

    def test_seven_places_of_more(self):
        random = Random(167)
        for turn in range(5):
            self.check(spread_table(random, 9, sorted(random.sample(range(9), 7))), 9)
            self.check(spread_table(random, 10, sorted(random.sample(range(10), 3))), 10)

    def test_odds_of_all_places(self):
        for many in range(1, 11):
            self.check(odd_table(many), many)

    def test_ends(self):
        self.assertEqual(form_of_graph(([], 0)), NO)
        self.assertEqual(form_of_graph(([], 1)), YES)

    def test_twelve_places(self):
        for form in chance_forms(173, 4, 12, 7) + [deep_left(12, 5)]:
            again = form_of_graph(graph(form))
            self.assertEqual(graph(again), graph(form))
            self.assertLessEqual(most_brackets(shown(again, TWELVE)), 12)


class NothingChanges(unittest.TestCase):
    def test_what_is_handed_in_and_what_is_told(self):
        for form in chance_forms(179, 10, 4, 5):
            told = graph(form)
            leaves_alone(self, graph, form)
            leaves_alone(self, graph_of_table, truths_of(form, 4))
            leaves_alone(self, walked, told, (T, F, T, T))
            leaves_alone(self, form_of_graph, told)
