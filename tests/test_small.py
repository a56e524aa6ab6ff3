import unittest
from itertools import product
from random import Random

from circuits import small as module
from circuits.errors import NoMachine
from circuits.machines import answers, machine_of
from circuits.partings import partings
from circuits.small import shows_small, small
from tests.samples import (
    arguments_are, chance_machine, chance_machines, chance_rows, doubled, leaves_alone, most_of_each, moved_about,
    reached_from_first, refused_with, ring, same_kind, wrong_machines,
)
from tests.test_machines import SEEN, WIDE
from tests.test_partings import wanted_parting

F, T = False, True


def alike(machine, first, second):
    return first == second or wanted_parting(machine, first, second) is None


def wanted_shows(machine, other, numbers):
    """Word by word as 7.3 tells."""
    states, others = machine[2], other[2]
    if machine[:2] != other[:2] or len(numbers) != len(states):
        return False
    if any(number is not None and number not in range(len(others)) for number in numbers):
        return False
    if numbers[0] is None or numbers[0] != 0:
        return False
    for place, number in enumerate(numbers):
        if number is not None:
            for (told, follower), (like, after) in zip(states[place], others[number]):
                if told != like or numbers[follower] is None or numbers[follower] != after:
                    return False
    return True


class Interface(unittest.TestCase):
    def test_names_and_arguments(self):
        arguments_are(self, module, {"small": ["machine"], "shows_small": ["machine", "other", "numbers"]})


class Small(unittest.TestCase):
    def check(self, machine):
        told = small(machine)
        self.assertIs(type(told), tuple)
        least, numbers = told
        reached = reached_from_first(machine)
        firsts = []
        for number in reached:
            if not any(alike(machine, number, one) for one in firsts):
                firsts.append(number)
        place_of = {number: [alike(machine, number, one) for one in firsts].index(True) for number in reached}
        # As they are come to: the states' kinds are met in the order in which the states are.
        order = self.order_of(machine, place_of, firsts)
        wanted_numbers = [
            order.index(place_of[number]) if number in place_of else None for number in range(len(machine[2]))
        ]
        wanted_states = [
            [(answer, order.index(place_of[follower])) for answer, follower in machine[2][firsts[one]]]
            for one in order
        ]
        self.assertTrue(same_kind(numbers, wanted_numbers))
        self.assertTrue(same_kind(least, (machine[0], machine[1], wanted_states)))
        self.assertEqual(reached_from_first(least), list(range(len(least[2]))))
        self.assertEqual(len(partings(least)), len(least[2]) * (len(least[2]) - 1) // 2)
        self.assertIs(shows_small(machine, least, numbers), True)

    def order_of(self, machine, place_of, firsts):
        order = [place_of[0]]
        for one in order:
            for answer, follower in machine[2][firsts[one]]:
                if place_of[follower] not in order:
                    order.append(place_of[follower])
        return order

    def test_ordinary(self):
        self.assertTrue(same_kind(small(SEEN), (SEEN, [0, 1])))
        machine = (1, 1, [[((F,), 3), ((F,), 1)], [((F,), 1), ((T,), 2)], [((F,), 2), ((T,), 1)], [((F,), 0), ((F,), 2)],
                          [((T,), 0), ((T,), 0)]])
        self.assertTrue(same_kind(small(machine), (
            (1, 1, [[((F,), 0), ((F,), 1)], [((F,), 1), ((T,), 1)]]), [0, 1, 1, 0, None],
        )))

    def test_states_that_can_not_be_come_to(self):
        machine = (0, 1, [[((F,), 0)], [((F,), 1)], [((T,), 0)]])
        self.assertTrue(same_kind(small(machine), ((0, 1, [[((F,), 0)]]), [0, None, None])))

    def test_numbered_as_they_are_come_to(self):
        machine = (1, 2, [[((F, F), 2), ((F, F), 1)], [((F, T), 1), ((F, T), 0)], [((T, F), 2), ((T, F), 1)]])
        self.assertTrue(same_kind(small(machine), (
            (1, 2, [[((F, F), 1), ((F, F), 2)], [((T, F), 1), ((T, F), 2)], [((F, T), 2), ((F, T), 0)]]), [0, 2, 1],
        )))

    def test_one_state(self):
        for machine in ((0, 0, [[((), 0)]]), (3, 12, [[((T, F) * 6, 0)] * 8])):
            self.assertTrue(same_kind(small(machine), (machine, [0])))

    def test_all_alike(self):
        machine = (1, 1, [[((T,), (k + 1) % 5), ((T,), k)] for k in range(5)])
        self.assertTrue(same_kind(small(machine), ((1, 1, [[((T,), 0), ((T,), 0)]]), [0] * 5)))
        machine = (2, 0, [[((), (k + row) % 20) for row in range(4)] for k in range(20)])
        self.assertTrue(same_kind(small(machine), ((2, 0, [[((), 0)] * 4]), [0] * 20)))

    def test_none_alike(self):
        for machine in (ring(20), ring(20, 12, 3), ring(7, 1, 0)):
            self.assertTrue(same_kind(small(machine), (machine, list(range(len(machine[2]))))))

    def test_drawn_machines(self):
        for machine in chance_machines(433, 150) + [WIDE]:
            self.check(machine)
        random = Random(439)
        for many, wide in product((0, 1, 3), (0, 1, 12)):
            self.check(chance_machine(random, many, wide, 20))

    def test_machines_of_circuits(self):
        for seed in range(10):
            self.check(machine_of(most_of_each(seed))[0])

    def test_doubled_ones(self):
        for machine in chance_machines(443, 40, 6):
            self.check(doubled(machine))

    def test_machines_that_answer_alike_have_equal_least_machines(self):
        random = Random(449)
        for machine in chance_machines(457, 60, 8):
            least = small(machine)[0]
            order = list(range(1, len(machine[2])))
            random.shuffle(order)
            other = moved_about(machine, [0] + order)
            self.assertTrue(same_kind(small(other)[0], least))
            self.assertTrue(same_kind(small(doubled(machine))[0], least))
            self.assertTrue(same_kind(small(doubled(other))[0], least))
            more = (machine[0], machine[1], machine[2] + [machine[2][0]] + chance_machine(random, *machine[:2], 2)[2])
            more[2][-2:] = [[(told, 0) for told, follower in state] for state in more[2][-2:]]
            self.assertTrue(same_kind(small(more)[0], least))
            self.assertTrue(same_kind(small(least)[0], least))

    def test_machines_that_answer_unlike_have_unlike_ones(self):
        for machine in chance_machines(461, 40, 6):
            many, wide, states = machine
            if wide:
                for number in reached_from_first(machine):
                    told, follower = states[number][0]
                    other = [list(state) for state in states]
                    other[number][0] = ((not told[0],) + told[1:], follower)
                    self.assertNotEqual(small((many, wide, other))[0], small(machine)[0])

    def test_it_answers_alike(self):
        random = Random(463)
        for machine in chance_machines(467, 60, 15):
            least = small(machine)[0]
            rows = chance_rows(random, machine[0], 40)
            self.assertEqual(answers(least, rows), answers(machine, rows))

    def test_four_hundred_states(self):
        big = ring(400, 24, 3)
        self.assertTrue(same_kind(small(doubled(ring(200, 24, 3)))[0], ring(200, 24, 3)))
        self.assertTrue(same_kind(small(big), (big, list(range(400)))))

    def test_no_machine(self):
        for machine in (SEEN, (0, 0, [[((), 0)]]), chance_machine(Random(7), 2, 1, 3)):
            for wrong in wrong_machines(machine):
                refused_with(self, NoMachine, small, wrong)


class ShowsSmall(unittest.TestCase):
    # States 0 and 3 are alike, 1 and 2 are, 4 can't be come to and is alike none of them.
    MACHINE = (1, 1, [[((F,), 3), ((F,), 1)], [((F,), 1), ((T,), 2)], [((F,), 2), ((T,), 1)], [((F,), 0), ((F,), 2)],
                      [((T,), 0), ((T,), 0)]])
    LEAST = (1, 1, [[((F,), 0), ((F,), 1)], [((F,), 1), ((T,), 1)]])

    def test_numbers_that_show_it(self):
        self.assertIs(shows_small(self.MACHINE, self.LEAST, [0, 1, 1, 0, None]), True)
        self.assertIs(shows_small(self.LEAST, self.LEAST, [0, 1]), True)
        self.assertIs(shows_small(self.MACHINE, self.MACHINE, [0, 1, 2, 3, 4]), True)
        self.assertIs(shows_small(self.MACHINE, self.MACHINE, [0, 1, 2, 3, None]), True)

    def test_the_other_need_not_be_least(self):
        big = doubled(self.LEAST)
        self.assertIs(shows_small(big, self.LEAST, [0, 1, 0, 1]), True)
        twice = (0, 1, [[((T,), 1)], [((T,), 0)]])
        self.assertIs(shows_small(twice, twice, [0, 1]), True)
        self.assertIs(shows_small((0, 1, [[((T,), 0)]]), twice, [0]), False)
        self.assertIs(shows_small(twice, (0, 1, [[((T,), 0)]]), [0, 0]), True)

    def test_one_number_changed(self):
        right = [0, 1, 1, 0, None]
        for place in range(5):
            for number in (None, 0, 1, 2, 3, -1, -2, 10 ** 5000, -(10 ** 5000)):
                if number != right[place]:
                    numbers = right[:place] + [number] + right[place + 1:]
                    self.assertIs(shows_small(self.MACHINE, self.LEAST, numbers), False, numbers)

    def test_all_numbers(self):
        for numbers in product((None, -1, 0, 1, 2), repeat=5):
            wanted = wanted_shows(self.MACHINE, self.LEAST, list(numbers))
            self.assertIs(shows_small(self.MACHINE, self.LEAST, list(numbers)), wanted)

    def test_too_many_and_too_few(self):
        for numbers in ([], [0], [0, 1, 1, 0], [0, 1, 1, 0, None, None], [0, 1, 1, 0, None, 0], [None] * 5):
            self.assertIs(shows_small(self.MACHINE, self.LEAST, numbers), False)

    def test_machines_of_other_sizes(self):
        none = (0, 1, [[((F,), 0)]])
        wide = (1, 2, [[((F, F), 0), ((F, F), 0)]])
        plain = (1, 1, [[((F,), 0), ((F,), 0)]])
        nothing = (1, 0, [[((), 0), ((), 0)]])
        self.assertIs(shows_small(plain, plain, [0]), True)
        for one, two in product((none, wide, plain, nothing), repeat=2):
            self.assertIs(shows_small(one, two, [0]), one is two)

    def test_drawn_machines(self):
        random = Random(479)
        told = {F: 0, T: 0}
        for machine in chance_machines(487, 120, 6):
            least, right = small(machine)
            for turn in range(6):
                numbers = list(right)
                if turn:
                    numbers[random.randrange(len(numbers))] = random.choice([None, 0, 1, 2, len(least[2]), -1])
                wanted = wanted_shows(machine, least, numbers)
                self.assertIs(shows_small(machine, least, numbers), wanted)
                told[wanted] += 1
        self.assertGreater(min(told.values()), 100)

    def test_answers_changed(self):
        many, wide, states = self.LEAST
        for number, row in product(range(2), repeat=2):
            other = [list(state) for state in states]
            told, follower = other[number][row]
            other[number][row] = ((not told[0],), follower)
            self.assertIs(shows_small(self.MACHINE, (many, wide, other), [0, 1, 1, 0, None]), False)
            other[number][row] = (told, 1 - follower)
            self.assertIs(shows_small(self.MACHINE, (many, wide, other), [0, 1, 1, 0, None]), False)

    def test_no_machine_of_either(self):
        for wrong in wrong_machines(self.LEAST):
            refused_with(self, NoMachine, shows_small, wrong, self.LEAST, [0, 1])
            refused_with(self, NoMachine, shows_small, self.LEAST, wrong, [0, 1])
            refused_with(self, NoMachine, shows_small, self.LEAST, wrong, [])
            refused_with(self, NoMachine, shows_small, wrong, WIDE, [9])
            refused_with(self, NoMachine, shows_small, WIDE, wrong, [])


class NothingChanges(unittest.TestCase):
    def test_what_is_handed_in_and_what_is_told(self):
        for machine in chance_machines(491, 12) + [ring(4), doubled(ring(3))]:
            leaves_alone(self, small, machine)
            least, numbers = small(machine)
            leaves_alone(self, shows_small, machine, least, numbers)
