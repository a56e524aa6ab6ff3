import unittest
from random import Random

from circuits import woven as module
from circuits.errors import NoMachine, UnlikeSizes
from circuits.machines import answers, state_behind
from circuits.partings import partings
from circuits.small import small
from circuits.woven import woven
from tests.samples import (
    arguments_are, chance_machine, chance_rows, leaves_alone, reached_from_first, refused_with, ring,
    same_kind, wrong_machines,
)
from tests.test_machines import SEEN, WIDE
from tests.test_partings import wanted_parting

F, T = False, True


def wanted_woven(machine, other):
    pairs, states = [(0, 0)], []
    for left, right in pairs:
        state = []
        for (told, follower), (like, after) in zip(machine[2][left], other[2][right]):
            if (follower, after) not in pairs:
                pairs.append((follower, after))
            state.append((told + like, pairs.index((follower, after))))
        states.append(state)
    return ((machine[0], machine[1] + other[1], states), pairs)


def chance_pairs(seed, count, most=6):
    """Pairs of machines that take as many truths."""
    random = Random(seed)
    found = []
    for number in range(count):
        many = random.randrange(4)
        found.append(tuple(
            chance_machine(random, many, random.randrange(4), random.randrange(1, most + 1)) for side in range(2)
        ))
    return found


class Woven(unittest.TestCase):
    def test_names_and_arguments(self):
        arguments_are(self, module, {"woven": ["machine", "other"]})

    def test_ordinary(self):
        later = (1, 1, [[((T,), 1), ((T,), 0)], [((F,), 1), ((F,), 0)]])
        self.assertTrue(same_kind(woven(SEEN, later), (
            (1, 3, [
                [((F, F, T), 1), ((F, T, T), 2)], [((F, F, F), 1), ((F, T, F), 2)],
                [((T, F, T), 3), ((T, T, T), 2)], [((T, F, F), 3), ((T, T, F), 2)],
            ]), [(0, 0), (0, 1), (1, 0), (1, 1)],
        )))

    def test_one_behind_the_other(self):
        one, two = (0, 1, [[((T,), 0)]]), (0, 2, [[((F, F), 0)]])
        self.assertTrue(same_kind(woven(one, two), ((0, 3, [[((T, F, F), 0)]]), [(0, 0)])))
        self.assertTrue(same_kind(woven(two, one), ((0, 3, [[((F, F, T), 0)]]), [(0, 0)])))

    def test_with_one_that_answers_nothing(self):
        nothing = (1, 0, [[((), 0), ((), 0)]])
        self.assertTrue(same_kind(woven(SEEN, nothing), (SEEN, [(0, 0), (1, 0)])))
        self.assertTrue(same_kind(woven(nothing, SEEN), (SEEN, [(0, 0), (0, 1)])))
        self.assertTrue(same_kind(woven(nothing, nothing), (nothing, [(0, 0)])))

    def test_with_itself(self):
        machine, pairs = woven(ring(5), ring(5))
        self.assertEqual(pairs, [(k, k) for k in range(5)])
        self.assertEqual(machine[1], 2)

    def test_drawn_machines(self):
        for machine, other in chance_pairs(499, 120):
            told = woven(machine, other)
            self.assertIs(type(told), tuple)
            self.assertTrue(same_kind(told, wanted_woven(machine, other)))

    def test_it_answers_as_both(self):
        random = Random(503)
        for machine, other in chance_pairs(509, 40):
            both, pairs = woven(machine, other)
            rows = chance_rows(random, machine[0], 20)
            wanted = [one + two for one, two in zip(answers(machine, rows), answers(other, rows))]
            self.assertEqual(answers(both, rows), wanted)
            self.assertEqual(pairs[state_behind(both, rows)], (state_behind(machine, rows), state_behind(other, rows)))

    def test_some_hundred_states(self):
        both, pairs = woven(ring(20, 12, 0), ring(19, 12, 0))
        self.assertEqual((both[0], both[1], len(both[2])), (0, 24, 380))
        self.assertEqual(pairs, [(k % 20, k % 19) for k in range(380)])
        self.assertTrue(same_kind(woven(both, both)[0][2][379], [(both[2][379][0][0] * 2, 0)]))
        self.assertEqual(len(small(both)[0][2]), 380)
        parted = partings(both)
        self.assertEqual(len(parted), 380 * 379 // 2)
        for pair in ((0, 1), (0, 379), (20, 39), (5, 24), (7, 200)):
            self.assertEqual(parted[pair], wanted_parting(both, *pair))
        twice = woven(both, ring(3, 1, 0))
        self.assertEqual(len(twice[1]), 1140)
        self.assertEqual(woven(WIDE, WIDE)[1], [(k, k) for k in reached_from_first(WIDE)])

    def test_no_machine_of_the_first_then_of_the_other_then_unlike_sizes(self):
        takes_two = (2, 1, [[((T,), 0)] * 4])
        for wrong in wrong_machines(SEEN):
            refused_with(self, NoMachine, woven, wrong, SEEN)
            refused_with(self, NoMachine, woven, SEEN, wrong)
            refused_with(self, NoMachine, woven, wrong, takes_two)
            refused_with(self, NoMachine, woven, takes_two, wrong)
            refused_with(self, NoMachine, woven, wrong, wrong)
        self.assertEqual(len(woven(takes_two, takes_two)[1]), 1)

    def test_unlike_sizes(self):
        machines = [(many, 1, [[((T,), 0)] * (1 << many)]) for many in range(4)]
        for one in machines:
            for two in machines:
                if one is two:
                    self.assertEqual(woven(one, two)[1], [(0, 0)])
                else:
                    refused_with(self, UnlikeSizes, woven, one, two)

    def test_nothing_changes(self):
        for machine, other in chance_pairs(521, 12):
            leaves_alone(self, woven, machine, other)
        leaves_alone(self, woven, ring(4), ring(4))
