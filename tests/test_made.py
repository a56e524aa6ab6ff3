import unittest
from itertools import product
from random import Random

from circuits import made as module
from circuits.cubes import in_cube
from circuits.covers import covers
from circuits.errors import NoMachine, TooGreat
from circuits.forms import value
from circuits.leasts import shows_cover
from circuits.machines import answers, machine_of
from circuits.made import circuit_of, covers_of
from circuits.notes import shown
from circuits.rows import row_of
from circuits.small import small
from circuits.wires import gone
from tests.samples import (
    TWELVE, arguments_are, chance_machine, chance_machines, chance_rows, depth, doubled, is_form, leaves_alone,
    most_brackets, refused_with, ring, rows_of, same_kind, tuples, wrong_machines,
)
from tests.test_leasts import fewest
from tests.test_machines import SEEN

F, T, N = False, True, None
CELLS = dict(enumerate([0, 1, 2, 2, 3, 3, 3, 3, 4, 4, 4, 4, 4, 4, 4, 4], start=1))


def lonely(machine):
    """The machine with states that can't be come to, unlike all others."""
    many, wide, states = machine
    more = [[((True,) * wide, len(states) + turn)] * (1 << many) for turn in range(3)]
    return (many, wide, states + more)


def wanted_wishes(least, cells):
    """For each row of what comes in and the cells: what the next cells and the answers should be, None for no state."""
    many, wide, states = least
    wishes = [[] for place in range(cells + wide)]
    for row in rows_of(many + cells):
        numbers = [int("0" + "".join(str(int(truth)) for truth in part), 2) for part in (row[:many], row[many:])]
        if numbers[1] < len(states):
            told, follower = states[numbers[1]][numbers[0]]
            truths = row_of(follower, cells) + told
        else:
            truths = (None,) * (cells + wide)
        for wish, truth in zip(wishes, truths):
            wish.append(truth)
    return wishes


class Interface(unittest.TestCase):
    def test_names_and_arguments(self):
        arguments_are(self, module, {"circuit_of": ["machine"], "covers_of": ["machine"]})


class CircuitOf(unittest.TestCase):
    def check(self, machine):
        circuit = circuit_of(machine)
        least = small(machine)[0]
        many, held, outs = circuit
        self.assertIs(type(circuit), tuple)
        self.assertIs(type(held), tuple)
        self.assertIs(type(outs), tuple)
        cells = CELLS[len(least[2])]
        self.assertEqual((many, len(held), len(outs)), (machine[0], cells, machine[1]))
        self.assertTrue(all(type(cell) is tuple and len(cell) == 2 and cell[0] is False for cell in held))
        forms = [form for first, form in held] + list(outs)
        for form, wish in zip(forms, wanted_wishes(least, cells)):
            self.check_form(form, wish, many + cells)
        again, truths = machine_of(circuit)
        self.assertTrue(same_kind(again, least))
        self.assertTrue(same_kind(truths, [row_of(number, cells) for number in range(len(least[2]))]))
        self.assertTrue(same_kind(small(again)[0], least))

    def check_form(self, form, wish, places):
        self.assertTrue(is_form(form))
        self.assertLessEqual(depth(form), 60)
        self.assertLessEqual(tuples(form), 1000)
        self.assertLessEqual(most_brackets(shown(form, TWELVE)), 12)
        truths = [value(form, row) for row in rows_of(places)]
        for truth, wanted in zip(truths, wish):
            if wanted is not None:
                self.assertIs(truth, wanted)
            elif places > 4:
                self.assertIs(truth, False)

    def test_ordinary(self):
        machine = (1, 1, [[((F,), 0), ((F,), 1)], [((T,), 1), ((T,), 0)]])
        circuit = circuit_of(machine)
        self.assertEqual((circuit[0], len(circuit[1]), len(circuit[2])), (1, 1, 1))
        self.assertEqual([value(circuit[1][0][1], row) for row in rows_of(2)], [F, T, T, F])
        self.assertEqual([value(circuit[2][0], row) for row in rows_of(2)], [F, T, F, T])
        self.check(SEEN)

    def test_nothing_at_all(self):
        self.assertTrue(same_kind(circuit_of((0, 0, [[((), 0)]])), (0, (), ())))
        self.assertEqual(circuit_of((3, 0, [[((), 0)] * 8])), (3, (), ()))

    def test_how_many_states(self):
        for count, cells in CELLS.items():
            for many in range(4):
                machine = ring(count, 1, many)
                self.assertEqual(len(circuit_of(machine)[1]), cells)
                self.check(machine)
                self.check(ring(count, 6, many))
                self.check(lonely(machine))
                self.check(doubled(machine))

    def test_too_many_states(self):
        for many in range(4):
            for count in (17, 18, 20):
                refused_with(self, TooGreat, circuit_of, ring(count, 1, many))
                refused_with(self, TooGreat, covers_of, ring(count, 1, many))
            self.check(lonely(ring(16, 2, many)))
            self.assertEqual(len(circuit_of(doubled(ring(10, 1, many)))[1]), 4)

    def test_too_many_answers(self):
        for many in range(4):
            for count in (1, 3):
                self.check(ring(count, 6, many))
                self.check(ring(count, 0, many))
                for wide in (7, 8, 12):
                    refused_with(self, TooGreat, circuit_of, ring(count, wide, many))
                    refused_with(self, TooGreat, covers_of, ring(count, wide, many))

    def test_no_machine_ahead_of_too_great(self):
        for machine in (SEEN, ring(3, 7), ring(17, 1, 0), (0, 0, [[((), 0)]])):
            for wrong in wrong_machines(machine)[::3]:
                refused_with(self, NoMachine, circuit_of, wrong)
                refused_with(self, NoMachine, covers_of, wrong)

    def test_drawn_machines(self):
        for machine in chance_machines(601, 100, 16):
            self.check(machine)
        random = Random(607)
        for many in range(4):
            for count in (5, 9, 16):
                self.check(chance_machine(random, many, 6, count))

    def test_it_answers_as_the_machine_does(self):
        random = Random(613)
        for machine in chance_machines(617, 50, 12):
            rows = chance_rows(random, machine[0], 30)
            self.assertEqual(gone(circuit_of(machine), rows), answers(machine, rows))

    def test_five_together_are_false_where_no_state_is(self):
        for machine in (ring(5, 1, 2), ring(3, 2, 3), ring(9, 1, 1), ring(13, 6, 3)):
            many, held, outs = circuit_of(machine)
            count = len(machine[2])
            for form in [form for first, form in held] + list(outs):
                for number, row in enumerate(rows_of(many + len(held))):
                    if number % (1 << len(held)) >= count:
                        self.assertIs(value(form, row), False)


class CoversOf(unittest.TestCase):
    def check(self, machine):
        least = small(machine)[0]
        cells = CELLS[len(least[2])]
        wishes = wanted_wishes(least, cells)
        told = covers_of(machine)
        many, held, outs = circuit_of(machine)
        forms = [form for first, form in held] + list(outs)
        self.assertIs(type(told), list)
        self.assertEqual(len(told), len(wishes))
        for (cover, tree), wish, form in zip(told, wishes, forms):
            self.assertTrue(covers(cover, wish))
            self.assertEqual(len(cover), fewest(wish))
            self.assertIs(shows_cover(wish, len(cover) - 1, tree), True)
            for row in rows_of(many + cells):
                self.assertIs(value(form, row), any(in_cube(cube, row) for cube in cover))

    def test_none_to_four_together(self):
        for many, count in product(range(4), (1, 2, 3, 4, 5, 7, 8, 9, 15, 16)):
            if many + CELLS.get(count, 9) <= 4:
                for wide in (0, 1, 6):
                    self.check(ring(count, wide, many))
                self.check(lonely(ring(count, 1, many)))

    def test_drawn_machines(self):
        taken = 0
        for machine in chance_machines(619, 120, 10):
            if machine[0] + CELLS.get(len(small(machine)[0][2]), 4) <= 4:
                self.check(machine)
                taken += 1
        self.assertGreater(taken, 30)

    def test_five_together_are_refused(self):
        for many, count in product(range(4), (1, 2, 3, 5, 8, 9, 16)):
            if many + CELLS[count] > 4:
                refused_with(self, TooGreat, covers_of, ring(count, 1, many))
                self.assertEqual(len(circuit_of(ring(count, 1, many))[1]), CELLS[count])
            else:
                self.assertEqual(len(covers_of(ring(count, 1, many))), CELLS[count] + 1)

    def test_first_the_cells_then_the_answers(self):
        machine = (0, 1, [[((F,), 1)], [((F,), 2)], [((T,), 0)]])
        self.assertEqual(covers_of(machine)[0][0], [(N, T)])
        self.assertEqual(covers_of(machine)[1][0], [(F, F)])
        self.assertEqual(covers_of(machine)[2][0], [(T, N)])
        self.assertEqual(covers_of((0, 0, [[((), 0)]])), [])


class NothingChanges(unittest.TestCase):
    def test_what_is_handed_in_and_what_is_told(self):
        for machine in chance_machines(631, 12, 4) + [ring(4), (1, 6, [[((T,) * 6, 0)] * 2])]:
            leaves_alone(self, circuit_of, machine)
            if machine[0] < 3:
                leaves_alone(self, covers_of, machine)
