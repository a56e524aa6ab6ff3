import unittest
from random import Random

from circuits import machines as module
from circuits.errors import NoMachine, NoPlace, UnlikeSizes
from circuits.machines import answers, machine_of, state_behind
from circuits.wires import gone, stepped
from tests.samples import (
    arguments_are, chance_circuit, chance_machine, chance_machines, chance_rows, leaves_alone, most_of_each,
    refused_with, ring, rows_of, same_kind, wrong_machines,
)
from tests.test_wires import COUNTER, LATER, NOTHING, with_form

A, B, C = ("at", 0), ("at", 1), ("at", 2)
F, T = False, True

# Answers whether a True has come in ahead, and whether one comes in now.
SEEN = (1, 2, [[((F, F), 0), ((F, T), 1)], [((T, F), 1), ((T, T), 1)]])
WIDE = (3, 12, [
    [(tuple((row * (state + 3) + k) % 3 == 0 for k in range(12)), (row + 7 * state + 1) % 20) for row in range(8)]
    for state in range(20)
])


def number_of_row(row):
    return int("0" + "".join(str(int(truth)) for truth in row), 2)


def simulated(machine, rows):
    state, told = 0, []
    for row in rows:
        answer, state = machine[2][state][number_of_row(row)]
        told.append(answer)
    return told, state


class Interface(unittest.TestCase):
    def test_names_and_arguments(self):
        arguments_are(self, module, {
            "answers": ["machine", "rows"], "state_behind": ["machine", "rows"], "machine_of": ["circuit"],
        })


class Answers(unittest.TestCase):
    def test_ordinary(self):
        rows = [(F,), (T,), (F,), (T,)]
        self.assertTrue(same_kind(answers(SEEN, rows), [(F, F), (F, T), (T, F), (T, T)]))
        self.assertTrue(same_kind(state_behind(SEEN, rows), 1))
        self.assertTrue(same_kind(state_behind(SEEN, rows[:1]), 0))

    def test_no_rows(self):
        for machine in (SEEN, WIDE, (0, 0, [[((), 0)]])):
            self.assertTrue(same_kind(answers(machine, []), []))
            self.assertTrue(same_kind(state_behind(machine, []), 0))

    def test_nothing_comes_in_or_is_answered(self):
        machine = (0, 1, [[((T,), 1)], [((F,), 2)], [((F,), 1)]])
        self.assertEqual(answers(machine, [()] * 4), [(T,), (F,), (F,), (F,)])
        self.assertEqual([state_behind(machine, [()] * k) for k in range(5)], [0, 1, 2, 1, 2])
        self.assertEqual(answers((0, 0, [[((), 0)]]), [()] * 3), [()] * 3)
        self.assertEqual(state_behind((1, 0, [[((), 0), ((), 1)], [((), 1), ((), 1)]]), [(F,), (T,)]), 1)

    def test_rows_by_their_numbers(self):
        machine = (3, 3, [[(row, 0) for row in rows_of(3)]])
        self.assertEqual(answers(machine, rows_of(3)), rows_of(3))
        turned = (3, 0, [[((), number) for number in range(8)]] + [[((), 0)] * 8] * 7)
        for number, row in enumerate(rows_of(3)):
            self.assertEqual(state_behind(turned, [row]), number)

    def test_drawn_machines(self):
        random = Random(353)
        for machine in chance_machines(359, 80) + [WIDE, ring(20), ring(400, 24)]:
            for length in (1, 4, 30):
                rows = chance_rows(random, machine[0], length)
                told, state = simulated(machine, rows)
                self.assertTrue(same_kind(answers(machine, rows), told))
                self.assertTrue(same_kind(state_behind(machine, rows), state))

    def test_a_row_of_another_length(self):
        for machine in (SEEN, WIDE, (0, 1, [[((T,), 0)]])):
            many = machine[0]
            fine = [(T,) * many] * 4
            for place in range(4):
                for length in range(6):
                    if length != many:
                        rows = fine[:place] + [(F,) * length] + fine[place + 1:]
                        refused_with(self, UnlikeSizes, answers, machine, rows)
                        refused_with(self, UnlikeSizes, state_behind, machine, rows)

    def test_no_machine(self):
        for machine in (SEEN, (0, 0, [[((), 0)]]), (2, 1, chance_machine(Random(3), 2, 1, 3)[2])):
            self.assertEqual(answers(machine, []), [])
            for wrong in wrong_machines(machine):
                refused_with(self, NoMachine, answers, wrong, [])
                refused_with(self, NoMachine, state_behind, wrong, [])

    def test_no_machine_ahead_of_unlike_sizes(self):
        for wrong in wrong_machines(SEEN):
            for rows in ([(T, T)], [()], [(T,), (F, F)]):
                refused_with(self, NoMachine, answers, wrong, rows)
                refused_with(self, NoMachine, state_behind, wrong, rows)

    def test_other_sizes_than_told(self):
        for machine in ((2, 2, SEEN[2]), (0, 2, SEEN[2]), (1, 1, SEEN[2]), (1, 3, SEEN[2]), (1, 2, [])):
            refused_with(self, NoMachine, answers, machine, [])
            refused_with(self, NoMachine, state_behind, machine, [])


class MachineOf(unittest.TestCase):
    def check(self, circuit):
        told = machine_of(circuit)
        self.assertIs(type(told), tuple)
        machine, truths = told
        many, wide, states = machine
        self.assertEqual((many, wide), (circuit[0], len(circuit[2])))
        wanted = [tuple(first for first, form in circuit[1])]
        for place, state in enumerate(wanted):
            pairs = []
            for row in rows_of(many):
                answer, after = stepped(circuit, state, row)
                if after not in wanted:
                    wanted.append(after)
                pairs.append((answer, wanted.index(after)))
            self.assertTrue(same_kind(states[place], pairs))
        self.assertTrue(same_kind(truths, wanted))
        self.assertEqual(len(states), len(wanted))

    def test_ordinary(self):
        self.assertTrue(same_kind(machine_of(LATER), (
            (1, 1, [[((T,), 1), ((T,), 0)], [((F,), 1), ((F,), 0)]]), [(T,), (F,)],
        )))
        machine, truths = machine_of(COUNTER)
        self.assertEqual(truths, [(F, F), (F, T), (T, F), (T, T)])
        self.assertEqual(machine[2][3], [((T, T), 3), ((T, T), 0)])

    def test_no_cell(self):
        self.assertTrue(same_kind(machine_of(NOTHING), ((0, 0, [[((), 0)]]), [()])))
        told = machine_of((2, (), (("and", A, B),)))
        self.assertTrue(same_kind(told, ((2, 1, [[((F,), 0), ((F,), 0), ((F,), 0), ((T,), 0)]]), [()])))

    def test_numbered_as_they_are_come_to(self):
        # Row 0 keeps the cells, row 1 changes the second, row 2 the first, row 3 both.
        circuit = (2, ((T, ("odd", C, A)), (F, ("odd", ("at", 3), B))), ())
        machine, truths = machine_of(circuit)
        self.assertEqual(truths, [(T, F), (T, T), (F, F), (F, T)])
        self.assertEqual([[pair[1] for pair in state] for state in machine[2]],
                         [[0, 1, 2, 3], [1, 0, 3, 2], [2, 3, 0, 1], [3, 2, 1, 0]])

    def test_states_that_can_not_be_come_to_have_no_number(self):
        circuit = (1, ((F, B), (T, A), (T, ("is", True))), (B,))
        self.assertEqual(machine_of(circuit)[1], [(F, T, T), (F, F, T)])
        self.check(circuit)

    def test_all_sixteen_states(self):
        shift = (1, ((F, A), (F, ("at", 1)), (F, ("at", 2)), (F, ("at", 3))), (("at", 4),))
        self.assertEqual(len(machine_of(shift)[1]), 16)
        self.check(shift)
        counter = (0, tuple((T, self.counting(cell)) for cell in range(4)), (("at", 0),))
        self.assertEqual(len(machine_of(counter)[1]), 16)
        self.check(counter)

    def counting(self, cell):
        carry = ("is", True)
        for later in range(cell + 1, 4):
            carry = ("and", carry, ("at", later))
        return ("odd", ("at", cell), carry)

    def test_drawn_circuits(self):
        random = Random(367)
        for turn in range(80):
            self.check(most_of_each(turn) if turn % 4 == 0 else chance_circuit(random))

    def test_it_answers_as_the_circuit_does(self):
        random = Random(373)
        for turn in range(40):
            circuit = most_of_each(turn) if turn % 4 == 0 else chance_circuit(random)
            machine, truths = machine_of(circuit)
            rows = chance_rows(random, circuit[0], 25)
            self.assertEqual(answers(machine, rows), gone(circuit, rows))
            state = truths[0]
            for row in rows:
                state = stepped(circuit, state, row)[1]
            self.assertEqual(truths[state_behind(machine, rows)], state)

    def test_no_place(self):
        for circuit in (COUNTER, LATER, most_of_each(379), (0, ((T, A),), ())):
            many, held, outs = circuit
            for place in range(len(held) + len(outs)):
                for form in (("at", many + len(held)), ("at", -1), ("or", ("is", T), ("at", 10 ** 5000))):
                    refused_with(self, NoPlace, machine_of, with_form(circuit, place, form))


class NothingChanges(unittest.TestCase):
    def test_what_is_handed_in_and_what_is_told(self):
        random = Random(383)
        for machine in chance_machines(389, 10):
            leaves_alone(self, answers, machine, chance_rows(random, machine[0], 5))
            leaves_alone(self, state_behind, machine, chance_rows(random, machine[0], 5))
        for turn in range(10):
            leaves_alone(self, machine_of, chance_circuit(random))
        leaves_alone(self, machine_of, NOTHING)
