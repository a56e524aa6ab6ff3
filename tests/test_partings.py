import unittest
from itertools import product
from random import Random

from circuits import partings as module
from circuits.errors import NoMachine
from circuits.partings import partings
from tests.samples import (
    arguments_are, chance_machine, chance_machines, doubled, leaves_alone, refused_with, ring, same_kind,
    wrong_machines,
)
from tests.test_machines import SEEN, WIDE

F, T = False, True


def wanted_parting(machine, first, second):
    """From one pair on, list by list: the short ones first, and by their numbers; None where they are alike."""
    states = machine[2]
    waiting, seen = [((first, second), [])], {(first, second)}
    for (left, right), numbers in waiting:
        for row, (one, two) in enumerate(zip(states[left], states[right])):
            if one[0] != two[0]:
                return numbers + [row]
        for row, (one, two) in enumerate(zip(states[left], states[right])):
            pair = (one[1], two[1])
            if pair not in seen:
                seen.add(pair)
                waiting.append((pair, numbers + [row]))
    return None


def parted_by(machine, first, second, numbers):
    states = machine[2]
    for row in numbers[:-1]:
        if states[first][row][0] != states[second][row][0]:
            return None
        first, second = states[first][row][1], states[second][row][1]
    return states[first][numbers[-1]][0] != states[second][numbers[-1]][0]


class Partings(unittest.TestCase):
    def check(self, machine):
        count = len(machine[2])
        wanted = {}
        for first in range(count):
            for second in range(first + 1, count):
                numbers = wanted_parting(machine, first, second)
                if numbers is not None:
                    wanted[first, second] = numbers
        told = partings(machine)
        self.assertIs(type(told), dict)
        self.assertTrue(same_kind(told, wanted))
        self.assertEqual(list(told), sorted(told))

    def test_names_and_arguments(self):
        arguments_are(self, module, {"partings": ["machine"]})

    def test_ordinary(self):
        self.assertTrue(same_kind(partings(SEEN), {(0, 1): [0]}))
        machine = (1, 1, [[((F,), 0), ((F,), 1)], [((F,), 0), ((F,), 2)], [((F,), 0), ((T,), 2)]])
        self.assertTrue(same_kind(partings(machine), {(0, 1): [1, 1], (0, 2): [1], (1, 2): [1]}))

    def test_of_several_the_first_by_their_numbers(self):
        # Rows 1 and 2 both lead to states that part at once, row 0 to such as part one row later.
        machine = (2, 1, [
            [((F,), 2), ((F,), 4), ((F,), 4), ((F,), 0)],
            [((F,), 3), ((F,), 5), ((F,), 5), ((F,), 0)],
            [((F,), 4), ((F,), 0), ((F,), 0), ((F,), 0)],
            [((F,), 5), ((F,), 0), ((F,), 0), ((F,), 0)],
            [((F,), 0), ((F,), 0), ((F,), 0), ((F,), 0)],
            [((F,), 0), ((F,), 0), ((T,), 0), ((T,), 0)],
        ])
        self.assertEqual(partings(machine)[0, 1], [1, 2])
        self.assertEqual(partings(machine)[2, 3], [0, 2])
        self.check(machine)

    def test_one_state(self):
        self.assertTrue(same_kind(partings((0, 0, [[((), 0)]])), {}))
        self.assertTrue(same_kind(partings((3, 12, [[((T,) * 12, 0)] * 8])), {}))

    def test_all_alike(self):
        self.assertEqual(partings((1, 1, [[((T,), (k + 1) % 5), ((T,), k)] for k in range(5)])), {})
        self.assertEqual(partings((0, 0, [[((), (k * 3) % 7)] for k in range(7)])), {})

    def test_none_alike(self):
        told = partings(ring(20))
        self.assertEqual(len(told), 190)
        self.assertEqual(told[0, 1], [1] * 18 + [0])
        self.assertEqual(told[18, 19], [0])
        self.check(ring(20))
        self.check(ring(20, 12, 3))
        self.check(ring(9, 1, 0))
        self.check(WIDE)

    def test_states_that_can_not_be_come_to(self):
        machine = (0, 1, [[((F,), 0)], [((F,), 2)], [((T,), 1)], [((F,), 3)]])
        self.assertTrue(same_kind(partings(machine), {
            (0, 1): [0, 0], (0, 2): [0], (1, 2): [0], (1, 3): [0, 0], (2, 3): [0],
        }))

    def test_drawn_machines(self):
        for machine in chance_machines(397, 150):
            self.check(machine)
        random = Random(401)
        for many, wide in product((0, 1, 3), (0, 1, 12)):
            self.check(chance_machine(random, many, wide, 20))

    def test_alike_and_unlike_ones(self):
        for machine in chance_machines(409, 30, 5):
            told = partings(doubled(machine))
            count = len(machine[2])
            for number in range(count):
                self.assertNotIn((number, number + count), told)
            self.check(doubled(machine))

    def test_what_is_told_parts_them(self):
        for machine in chance_machines(419, 60, 12):
            for (first, second), numbers in partings(machine).items():
                self.assertTrue(parted_by(machine, first, second, numbers))

    def test_four_hundred_states(self):
        random = Random(421)
        machine = (3, 24, [
            [((number % 20 == 19,) * 12 + (number // 20 == 19,) * 12, random.randrange(400)) for row in range(8)]
            for number in range(400)
        ])
        told = partings(machine)
        for pair in random.sample(sorted(told), 150):
            self.assertEqual(told[pair], wanted_parting(machine, *pair))
        self.assertEqual(list(told), sorted(told))

    def test_no_machine(self):
        for machine in (SEEN, (0, 0, [[((), 0)]]), chance_machine(Random(5), 2, 1, 3)):
            for wrong in wrong_machines(machine):
                refused_with(self, NoMachine, partings, wrong)

    def test_nothing_changes(self):
        for machine in chance_machines(431, 12) + [ring(5)]:
            leaves_alone(self, partings, machine)
