import unittest
from itertools import product
from random import Random

from circuits import pairs as module
from circuits.errors import NoMachine, UnlikeSizes
from circuits.machines import answers
from circuits.pairs import closed, told_machines
from circuits.rows import row_of
from circuits.small import small
from circuits.woven import woven
from tests.samples import (
    arguments_are, chance_machine, chance_machines, doubled, leaves_alone, moved_about, refused_with, ring, same_kind,
    wrong_machines,
)
from tests.test_machines import SEEN

F, T = False, True


def like_pairs(seed, count, most=5):
    """Pairs of machines of one size, that answer few things."""
    random = Random(seed)
    found = []
    for number in range(count):
        many, wide = random.randrange(3), random.randrange(1, 3)
        found.append(tuple(chance_machine(random, many, wide, random.randrange(1, most + 1)) for side in range(2)))
    return found


def changed_at(machine, number, row):
    """The machine with another answer at one row of one state."""
    many, wide, states = machine
    told, follower = states[number][row]
    state = states[number][:row] + [((not told[0],) + told[1:], follower)] + states[number][row + 1:]
    return (many, wide, states[:number] + [state] + states[number + 1:])


def wanted_unlike(machine, other, most):
    """All lists of rows, the short ones first and by their numbers, up to a length; None where none parts them."""
    for length in range(1, most + 1):
        for numbers in product(range(1 << machine[0]), repeat=length):
            rows = [row_of(number, machine[0]) for number in numbers]
            if answers(machine, rows)[-1] != answers(other, rows)[-1]:
                return list(numbers)
    return None


def wanted_closed(machine, other, pairs):
    for left, right in pairs:
        if left not in range(len(machine[2])) or right not in range(len(other[2])):
            return False
        for one, two in zip(machine[2][left], other[2][right]):
            if one[0] != two[0] or (one[1], two[1]) not in pairs:
                return False
    return (0, 0) in pairs


class Interface(unittest.TestCase):
    def test_names_and_arguments(self):
        arguments_are(self, module, {
            "told_machines": ["machine", "other"], "closed": ["machine", "other", "pairs"],
        })


class ToldMachines(unittest.TestCase):
    def test_ordinary(self):
        self.assertTrue(same_kind(told_machines(SEEN, SEEN), ("alike", [(0, 0), (1, 1)])))
        other = (1, 2, [[((F, F), 0), ((F, T), 1)], [((T, F), 1), ((T, F), 1)]])
        self.assertTrue(same_kind(told_machines(SEEN, other), ("unlike", [1, 1])))
        self.assertTrue(same_kind(told_machines(other, SEEN), ("unlike", [1, 1])))

    def test_one_row(self):
        one, two = (0, 1, [[((T,), 0)]]), (0, 1, [[((F,), 0)]])
        self.assertTrue(same_kind(told_machines(one, two), ("unlike", [0])))
        for row in range(8):
            plain = (3, 1, [[((F,), 0)] * 8])
            self.assertTrue(same_kind(told_machines(plain, changed_at(plain, 0, row)), ("unlike", [row])))

    def test_of_several_rows_the_first(self):
        plain = (3, 1, [[((F,), 0)] * 8])
        other = changed_at(changed_at(plain, 0, 6), 0, 3)
        self.assertEqual(told_machines(plain, other), ("unlike", [3]))

    def test_many_rows(self):
        for count in (2, 5, 20):
            still = (1, 1, [[((F,), 0)] * 2])
            self.assertEqual(told_machines(still, ring(count)), ("unlike", [1] * (count - 1) + [0]))
            self.assertEqual(told_machines(ring(count), ring(count + 1)), ("unlike", [1] * (count - 1) + [0]))
            self.assertEqual(told_machines(ring(count), changed_at(ring(count), count - 1, 1)),
                             ("unlike", [1] * count))

    def test_of_several_shortest_lists_the_first(self):
        machine = (2, 1, [
            [((F,), 1), ((F,), 2), ((F,), 2), ((F,), 3)],
            [((F,), 0), ((F,), 0), ((F,), 0), ((F,), 0)],
            [((F,), 0), ((F,), 0), ((F,), 3), ((T,), 0)],
            [((T,), 0), ((T,), 0), ((T,), 0), ((T,), 0)],
        ])
        still = (2, 1, [[((F,), 0)] * 4])
        self.assertEqual(told_machines(machine, still), ("unlike", [1, 3]))
        self.assertEqual(told_machines(still, machine), ("unlike", [1, 3]))

    def test_nothing_answered(self):
        one = (1, 0, [[((), 1), ((), 0)], [((), 1), ((), 1)]])
        two = (1, 0, [[((), 0), ((), 0)]])
        self.assertTrue(same_kind(told_machines(one, two), ("alike", [(0, 0), (1, 0)])))

    def test_states_in_another_order_or_twice(self):
        random = Random(523)
        for machine in chance_machines(541, 50, 7):
            order = list(range(1, len(machine[2])))
            random.shuffle(order)
            for other in (moved_about(machine, [0] + order), doubled(machine), small(machine)[0]):
                for one, two in ((machine, other), (other, machine)):
                    told = told_machines(one, two)
                    self.assertTrue(same_kind(told, ("alike", woven(one, two)[1])))
                    self.assertIs(closed(one, two, told[1]), True)

    def test_drawn_machines(self):
        told_so = {"alike": 0, "unlike": 0}
        for machine, other in like_pairs(547, 150):
            told = told_machines(machine, other)
            self.assertIs(type(told), tuple)
            told_so[told[0]] += 1
            if told[0] == "unlike":
                self.assertTrue(same_kind(told[1], wanted_unlike(machine, other, len(told[1]))))
            else:
                self.assertTrue(same_kind(told[1], woven(machine, other)[1]))
                self.assertEqual(small(machine)[0], small(other)[0])
        self.assertGreater(min(told_so.values()), 5)

    def test_one_answer_changed(self):
        for machine in chance_machines(557, 40, 5):
            if machine[1]:
                for number in range(len(machine[2])):
                    other = changed_at(machine, number, len(machine[2][number]) - 1)
                    told = told_machines(machine, other)
                    if told[0] == "unlike":
                        if len(told[1]) < 6:
                            self.assertEqual(told[1], wanted_unlike(machine, other, len(told[1])))
                        self.assertNotEqual(small(machine)[0], small(other)[0])
                    else:
                        self.assertEqual(small(machine)[0], small(other)[0])

    def test_some_hundred_states(self):
        both = woven(ring(20, 12, 0), ring(19, 12, 0))[0]
        self.assertEqual(told_machines(both, both), ("alike", [(k, k) for k in range(380)]))
        self.assertEqual(told_machines(both, changed_at(both, 379, 0)), ("unlike", [0] * 380))
        self.assertEqual(told_machines(both, woven(ring(19, 12, 0), ring(20, 12, 0))[0]), ("unlike", [0] * 19))

    def test_refusals(self):
        self.refused_in_order(told_machines)
        self.refused_in_order(lambda machine, other: closed(machine, other, [(0, 0)]))
        self.refused_in_order(lambda machine, other: closed(machine, other, []))
        self.refused_in_order(lambda machine, other: closed(machine, other, [(9, -9)]))

    def refused_in_order(self, ask):
        takes_two, narrow = (2, 2, [[((T, T), 0)] * 4]), (1, 1, [[((T,), 0)] * 2])
        for wrong in wrong_machines(SEEN):
            for other in (SEEN, takes_two, narrow, wrong):
                refused_with(self, NoMachine, ask, wrong, other)
                refused_with(self, NoMachine, ask, other, wrong)
        for other in (takes_two, narrow, (0, 2, [[((F, F), 0)]]), (1, 3, [[((T,) * 3, 0)] * 2])):
            refused_with(self, UnlikeSizes, ask, SEEN, other)
            refused_with(self, UnlikeSizes, ask, other, SEEN)
        refused_with(self, UnlikeSizes, ask, (1, 0, [[((), 0)] * 2]), narrow)


class Closed(unittest.TestCase):
    def test_any_order_and_twice(self):
        for machine in chance_machines(563, 30, 5):
            other = doubled(machine)
            pairs = told_machines(machine, other)[1]
            for some in (pairs, pairs[::-1], pairs + pairs, pairs[:1] * 3 + pairs[::-1]):
                self.assertIs(closed(machine, other, some), True)

    def test_one_left_out(self):
        for machine in chance_machines(569, 30, 6):
            other = doubled(machine)
            pairs = told_machines(machine, other)[1]
            for place in range(len(pairs)):
                self.assertIs(closed(machine, other, pairs[:place] + pairs[place + 1:]), False)

    def test_none_at_all(self):
        self.assertIs(closed(SEEN, SEEN, []), False)
        self.assertIs(closed((0, 0, [[((), 0)]]), (0, 0, [[((), 0)]]), []), False)
        self.assertIs(closed((0, 0, [[((), 0)]]), (0, 0, [[((), 0)]]), [(0, 0)]), True)

    def test_without_the_first_pair(self):
        self.assertIs(closed(SEEN, SEEN, [(1, 1)]), False)
        self.assertIs(closed(SEEN, SEEN, [(1, 1), (0, 0)]), True)

    def test_numbers_that_are_no_state(self):
        for wrong in (-1, -2, 2, 3, 10 ** 5000, -(10 ** 5000)):
            for pair in ((wrong, 0), (0, wrong), (wrong, wrong), (1, wrong), (wrong, 1)):
                self.assertIs(closed(SEEN, SEEN, [(0, 0), (1, 1), pair]), False)
                self.assertIs(closed(SEEN, SEEN, [pair, (0, 0), (1, 1)]), False)
        one = (1, 2, SEEN[2] + [SEEN[2][1]])
        self.assertIs(closed(one, SEEN, [(0, 0), (1, 1), (2, 1)]), True)
        self.assertIs(closed(one, SEEN, [(0, 0), (1, 1), (1, 2)]), False)
        self.assertIs(closed(SEEN, one, [(0, 0), (1, 1), (1, 2)]), True)

    def test_a_pair_that_answers_unlike(self):
        self.assertIs(closed(SEEN, SEEN, [(0, 0), (1, 1), (0, 1)]), False)
        for row in range(2):
            self.assertIs(closed(SEEN, changed_at(SEEN, 1, row), [(0, 0), (1, 1)]), False)

    def test_more_pairs_than_needed(self):
        machine = (0, 1, [[((T,), 0)], [((T,), 2)], [((T,), 1)]])
        self.assertIs(closed(machine, machine, [(0, 0)]), True)
        self.assertIs(closed(machine, machine, [(0, 0), (1, 2), (2, 1)]), True)
        self.assertIs(closed(machine, machine, [(0, 0), (1, 2)]), False)

    def test_drawn_pairs(self):
        random = Random(571)
        told = {F: 0, T: 0}
        for machine, other in like_pairs(577, 100, 3) + [(one, doubled(one)) for one in chance_machines(587, 60, 2)]:
            every = list(product(range(len(machine[2])), range(len(other[2]))))
            answer = told_machines(machine, other)
            for turn in range(6):
                pairs = random.sample(every, random.randrange(len(every) + 1))
                if answer[0] == "alike" and turn % 2:
                    pairs += answer[1]
                self.assertIs(closed(machine, other, pairs), wanted_closed(machine, other, pairs))
                told[wanted_closed(machine, other, pairs)] += 1
        self.assertGreater(min(told.values()), 50)

    def test_it_is_never_told_of_unlike_ones(self):
        for machine, other in like_pairs(593, 60, 2):
            if told_machines(machine, other)[0] == "unlike":
                every = list(product(range(len(machine[2])), range(len(other[2]))))
                for kept in product((F, T), repeat=len(every)):
                    some = [pair for pair, keep in zip(every, kept) if keep]
                    self.assertIs(closed(machine, other, some), False)


class NothingChanges(unittest.TestCase):
    def test_what_is_handed_in_and_what_is_told(self):
        for machine, other in like_pairs(599, 12):
            leaves_alone(self, told_machines, machine, other)
            leaves_alone(self, told_machines, machine, doubled(machine))
            leaves_alone(self, closed, machine, doubled(machine), told_machines(machine, doubled(machine))[1])
