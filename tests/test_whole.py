"""What is promised over the whole program, on drawn inputs; and all of its interface."""

import importlib
import inspect
import unittest
from random import Random

from circuits.covers import form_of_cover
from circuits.desk import least_sheet, told_sheets
from circuits.graphs import form_of_graph, graph, graph_of_table, walked
from circuits.leasts import least_cover
from circuits.machines import answers, machine_of
from circuits.made import circuit_of
from circuits.notes import read, shown
from circuits.sheets import read_sheet, shown_sheet
from circuits.small import shows_small, small
from circuits.tables import form_of_table, parting, table
from circuits.wires import gone
from tests.samples import (
    TWELVE, chance_circuit, chance_forms, chance_machines, chance_rows, doubled, most_brackets, most_of_each, named,
    rows_of, same_kind,
)

INTERFACE = {
    "forms": {"value": "form row", "places_in": "form", "put_in": "form forms"},
    "notes": {"shown": "form names", "read": "text names", "fault": "text names"},
    "rows": {"row_of": "number many", "number_of": "row"},
    "tables": {
        "table": "form many", "places_of": "table", "half": "table place truth", "parting": "table other",
        "form_of_table": "table",
    },
    "cubes": {"in_cube": "cube row", "rows_in": "cube", "cube_text": "cube"},
    "covers": {"fits": "cube wish", "primes": "wish", "covers": "cover wish", "form_of_cover": "cover"},
    "leasts": {"least_cover": "wish", "shows_cover": "wish count tree"},
    "graphs": {"graph": "form", "graph_of_table": "table", "walked": "graph row", "form_of_graph": "graph"},
    "graphing": {
        "turned": "graph", "joined": "word graph other", "halved": "graph place truth", "how_many": "graph many",
        "first_true": "graph many",
    },
    "cases": {"half_value": "form held", "told_forms": "form other many", "shows_alike": "tree form other many"},
    "wires": {"stepped": "circuit state row", "gone": "circuit rows"},
    "machines": {"answers": "machine rows", "state_behind": "machine rows", "machine_of": "circuit"},
    "partings": {"partings": "machine"},
    "small": {"small": "machine", "shows_small": "machine other numbers"},
    "woven": {"woven": "machine other"},
    "pairs": {"told_machines": "machine other", "closed": "machine other pairs"},
    "made": {"circuit_of": "machine", "covers_of": "machine"},
    "sheets": {"read_sheet": "text", "fault_row": "text", "shown_sheet": "names circuit"},
    "desk": {"least_sheet": "text", "told_sheets": "text other"},
}


class Interface(unittest.TestCase):
    def test_every_name_with_its_arguments(self):
        for file, functions in INTERFACE.items():
            module = importlib.import_module(f"circuits.{file}")
            for name, arguments in functions.items():
                found = inspect.signature(getattr(module, name)).parameters
                self.assertEqual(list(found), arguments.split(), name)
                self.assertTrue(all(one.default is inspect.Parameter.empty for one in found.values()), name)


class Forms(unittest.TestCase):
    def test_all_that_comes_of_a_form_has_its_table(self):
        for many in range(5):
            for form in chance_forms(673 + many, 40, many, 6):
                truths = table(form, many)
                told = graph(form)
                for other in (form_of_table(truths), form_of_cover(least_cover(truths)[0]), form_of_graph(told)):
                    self.assertIsNone(parting(table(other, many), truths))
                    self.assertEqual(graph(other), told)
                self.assertEqual(graph_of_table(truths), told)
                self.assertEqual([walked(told, row) for row in rows_of(many)], truths)

    def test_of_more_places(self):
        for many in (6, 8, 10):
            for form in chance_forms(677 + many, 5, many, 7):
                truths = table(form, many)
                told = graph(form)
                self.assertEqual(table(form_of_table(truths), many), truths)
                self.assertEqual(table(form_of_graph(told), many), truths)
                self.assertEqual(graph_of_table(truths), told)
                self.assertEqual([walked(told, row) for row in rows_of(many)], truths)

    def test_shown_and_read_again(self):
        taken = 0
        for form in chance_forms(683, 300, 12, 7):
            text = shown(form, TWELVE)
            if most_brackets(text) <= 12:
                self.assertTrue(same_kind(read(text, TWELVE), form))
                taken += 1
        self.assertGreater(taken, 200)


class Circuits(unittest.TestCase):
    def circuits(self, seed):
        random = Random(seed)
        return [most_of_each(turn) if turn % 5 == 0 else chance_circuit(random) for turn in range(50)]

    def test_from_a_circuit_to_a_machine_and_back(self):
        random = Random(691)
        for circuit in self.circuits(701):
            machine = machine_of(circuit)[0]
            least, numbers = small(machine)
            again = circuit_of(machine)
            rows = chance_rows(random, circuit[0], 20)
            told = gone(circuit, rows)
            self.assertEqual(answers(machine, rows), told)
            self.assertEqual(answers(least, rows), told)
            self.assertEqual(gone(again, rows), told)
            self.assertLessEqual(len(again[1]), len(circuit[1]))
            self.assertIs(shows_small(machine, least, numbers), True)

    def test_a_made_circuit_has_the_same_least_machine(self):
        for machine in chance_machines(709, 80, 8):
            for one in (machine, doubled(machine)):
                again = machine_of(circuit_of(one))[0]
                self.assertTrue(same_kind(small(again)[0], small(machine)[0]))

    def test_a_sheet_that_is_shown_is_read_again(self):
        random = Random(719)
        for circuit in self.circuits(727):
            names = named(random, circuit)
            text = shown_sheet(names, circuit)
            self.assertTrue(same_kind(read_sheet(text), (names, circuit)))
            self.assertEqual(shown_sheet(*read_sheet(text)), text)

    def test_a_least_sheet_answers_as_its_own(self):
        random = Random(733)
        texts = []
        for circuit in self.circuits(739):
            text = shown_sheet(named(random, circuit), circuit)
            least = least_sheet(text)
            made = read_sheet(least)[1]
            rows = chance_rows(random, circuit[0], 30)
            self.assertEqual(gone(made, rows), gone(circuit, rows))
            self.assertEqual(told_sheets(text, least), "alike")
            states = len(small(machine_of(circuit)[0])[0][2])
            self.assertEqual(len(made[1]), (states - 1).bit_length())
            texts.append((text, circuit))
        for (text, circuit), (other, like) in zip(texts, texts[1:]):
            if (circuit[0], len(circuit[2])) == (like[0], len(like[2])):
                equal = small(machine_of(circuit)[0])[0] == small(machine_of(like)[0])[0]
                self.assertEqual(told_sheets(text, other) == "alike", equal)
