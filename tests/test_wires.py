import unittest
from random import Random

from circuits import wires as module
from circuits.errors import NoPlace, UnlikeSizes
from circuits.forms import value
from circuits.wires import gone, stepped
from tests.samples import (
    arguments_are, chance_circuit, chance_rows, leaves_alone, most_of_each, refused_with, rows_of, same_kind,
)

A, B, C = ("at", 0), ("at", 1), ("at", 2)
YES, NO = ("is", True), ("is", False)
F, T = False, True
NOTHING = (0, (), ())

# Counts the truths that come in, by two cells, and answers both.
COUNTER = (1, ((F, ("odd", B, ("and", C, A))), (F, ("odd", C, A))), (B, C))
# Answers what came in at the step before, True at first.
LATER = (1, ((T, A),), (B,))


def with_form(circuit, place, form):
    """The circuit with another form in the place of one of its forms, cells' first."""
    many, held, outs = circuit
    if place < len(held):
        return (many, held[:place] + ((held[place][0], form),) + held[place + 1:], outs)
    place -= len(held)
    return (many, held, outs[:place] + (form,) + outs[place + 1:])


class Interface(unittest.TestCase):
    def test_names_and_arguments(self):
        arguments_are(self, module, {"stepped": ["circuit", "state", "row"], "gone": ["circuit", "rows"]})


class Stepped(unittest.TestCase):
    def test_ordinary(self):
        self.assertTrue(same_kind(stepped(COUNTER, (F, T), (T,)), ((F, T), (T, F))))
        self.assertTrue(same_kind(stepped(COUNTER, (F, T), (F,)), ((F, T), (F, T))))
        self.assertTrue(same_kind(stepped(LATER, (F,), (T,)), ((F,), (T,))))

    def test_nothing_at_all(self):
        self.assertTrue(same_kind(stepped(NOTHING, (), ()), ((), ())))

    def test_places_are_first_those_that_come_in(self):
        circuit = (2, ((F, ("at", 0)), (F, ("at", 1)), (F, ("at", 2))), tuple(("at", place) for place in range(5)))
        self.assertEqual(stepped(circuit, (T, F, F), (F, T)), ((F, T, T, F, F), (F, T, T)))

    def test_drawn_circuits(self):
        random = Random(313)
        for turn in range(60):
            circuit = chance_circuit(random)
            many, held, outs = circuit
            for row in rows_of(many):
                for state in rows_of(len(held)):
                    wanted = (
                        tuple(value(form, row + state) for form in outs),
                        tuple(value(form, row + state) for first, form in held),
                    )
                    self.assertTrue(same_kind(stepped(circuit, state, row), wanted))

    def test_unlike_sizes(self):
        for circuit in (COUNTER, LATER, NOTHING, most_of_each(317)):
            many, held, outs = circuit
            cells = len(held)
            self.assertEqual(len(stepped(circuit, (T,) * cells, (T,) * many)[0]), len(outs))
            for length in range(7):
                if length != many:
                    refused_with(self, UnlikeSizes, stepped, circuit, (T,) * cells, (T,) * length)
                if length != cells:
                    refused_with(self, UnlikeSizes, stepped, circuit, (T,) * length, (T,) * many)
            refused_with(self, UnlikeSizes, stepped, circuit, (T,) * (cells + 1), (T,) * (many + 1))
        refused_with(self, UnlikeSizes, stepped, COUNTER, (T,), (T, T))


class Gone(unittest.TestCase):
    def test_ordinary(self):
        rows = [(T,), (F,), (T,), (T,), (T,)]
        self.assertTrue(same_kind(gone(COUNTER, rows), [(F, F), (F, T), (F, T), (T, F), (T, T)]))
        self.assertTrue(same_kind(gone(LATER, rows), [(T,), (T,), (F,), (T,), (T,)]))

    def test_no_rows(self):
        self.assertTrue(same_kind(gone(COUNTER, []), []))
        self.assertTrue(same_kind(gone(NOTHING, []), []))

    def test_nothing_comes_in_or_is_answered(self):
        self.assertTrue(same_kind(gone(NOTHING, [(), (), ()]), [(), (), ()]))
        self.assertTrue(same_kind(gone((0, ((T, ("not", A)),), (A,)), [()] * 4), [(T,), (F,), (T,), (F,)]))
        self.assertTrue(same_kind(gone((2, ((T, A),), ()), [(T, F)] * 3), [()] * 3))
        self.assertTrue(same_kind(gone((1, (), (("not", A), YES)), [(T,), (F,)]), [(F, T), (T, T)]))

    def test_it_is_what_the_steps_tell(self):
        random = Random(331)
        for turn in range(40):
            circuit = most_of_each(turn) if turn % 4 == 0 else chance_circuit(random)
            rows = chance_rows(random, circuit[0], 12)
            state, wanted = tuple(first for first, form in circuit[1]), []
            for row in rows:
                answer, state = stepped(circuit, state, row)
                wanted.append(answer)
            self.assertTrue(same_kind(gone(circuit, rows), wanted))

    def test_a_row_of_another_length(self):
        for circuit in (COUNTER, NOTHING, most_of_each(337)):
            many = circuit[0]
            fine = [(T,) * many] * 4
            self.assertEqual(len(gone(circuit, fine)), 4)
            for place in range(4):
                for length in range(6):
                    if length != many:
                        rows = fine[:place] + [(F,) * length] + fine[place + 1:]
                        refused_with(self, UnlikeSizes, gone, circuit, rows)


class NoPlaceThere(unittest.TestCase):
    def test_a_form_with_a_place_too_many(self):
        for circuit in (COUNTER, LATER, most_of_each(347), (0, ((T, YES),), (NO,)), (2, (), (A, B))):
            many, held, outs = circuit
            places = many + len(held)
            for place in range(len(held) + len(outs)):
                for form in (("at", places), ("at", places + 4), ("at", -1), ("or", YES, ("and", NO, ("at", places)))):
                    wrong = with_form(circuit, place, form)
                    refused_with(self, NoPlace, gone, wrong, [])
                    refused_with(self, NoPlace, gone, wrong, [(T,) * many])
                    refused_with(self, NoPlace, stepped, wrong, (T,) * len(held), (T,) * many)
                if places:
                    right = with_form(circuit, place, ("at", places - 1))
                    self.assertEqual(gone(right, []), [])

    def test_ahead_of_unlike_sizes(self):
        wrong = with_form(COUNTER, 3, ("at", 3))
        refused_with(self, NoPlace, stepped, wrong, (), ())
        refused_with(self, NoPlace, stepped, wrong, (T, T, T), (T,))
        refused_with(self, NoPlace, gone, wrong, [(T, T)])
        refused_with(self, NoPlace, gone, with_form(COUNTER, 0, ("at", 10 ** 5000)), [()])


class NothingChanges(unittest.TestCase):
    def test_what_is_handed_in_and_what_is_told(self):
        random = Random(349)
        for turn in range(10):
            circuit = chance_circuit(random)
            leaves_alone(self, gone, circuit, chance_rows(random, circuit[0], 5))
            leaves_alone(self, stepped, circuit, (T,) * len(circuit[1]), (F,) * circuit[0])
