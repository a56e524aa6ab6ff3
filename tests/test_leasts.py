import unittest
from itertools import combinations, product
from random import Random

from circuits import leasts as module
from circuits.covers import covers
from circuits.errors import NoTable
from circuits.leasts import least_cover, shows_cover
from tests.samples import arguments_are, leaves_alone, refused_with, same_kind
from tests.test_covers import NO_WISHES, chance_wishes, many_of, wanted_primes
from tests.test_cubes import wanted_rows

F, T, N = False, True, None

# Six primes of two rows each, in a ring: three of them do.
RING = [T, T, F, T, T, F, T, T]
ODDS = [bin(number).count("1") % 2 == 1 for number in range(16)]
# The one prime of four rows is in no least cover: the greatest cube first takes one more.
GREEDY = [number in (1, 5, 6, 7, 11, 12, 13, 15) for number in range(16)]


def wished(wish):
    return [number for number, wanted in enumerate(wish) if wanted is T]


def fewest(wish):
    """By trying all lists of primes, the short ones first."""
    rows = [set(wanted_rows(prime)) for prime in wanted_primes(wish)]
    wanted = set(wished(wish))
    for count in range(len(rows) + 1):
        if any(wanted <= set().union(*some) for some in combinations(rows, count)):
            return count
    raise AssertionError("the primes don't cover the wish")


def wanted_tree(wish, count, so_far=()):
    """The tree that 3.5 tells for a number of cubes, None where some cubes cover the wish so."""
    every = wanted_primes(wish)
    inside = {number for cube in so_far for number in wanted_rows(cube)}
    left = [number for number in wished(wish) if number not in inside]
    if not left:
        return None
    number = min(left, key=lambda one: (sum(one in wanted_rows(prime) for prime in every), one))
    if count == 0:
        return (number, ())
    branches = tuple(
        (prime, wanted_tree(wish, count - 1, so_far + (prime,))) for prime in every if number in wanted_rows(prime)
    )
    return None if any(tree is None for prime, tree in branches) else (number, branches)


def parts_of(tree, way=()):
    """All tuples of a tree with the way to them."""
    found = [(way, tree)]
    for place, branch in enumerate(tree[1]):
        found += parts_of(branch[1], way + (place,))
    return found


def exchanged(tree, way, part):
    """The tree with another thing at the end of a way."""
    if not way:
        return part
    number, branches = tree
    place = way[0]
    branch = (branches[place][0], exchanged(branches[place][1], way[1:], part))
    return (number, branches[:place] + (branch,) + branches[place + 1:])


class Interface(unittest.TestCase):
    def test_names_and_arguments(self):
        arguments_are(self, module, {"least_cover": ["wish"], "shows_cover": ["wish", "count", "tree"]})


class LeastCover(unittest.TestCase):
    def check(self, wish):
        answer = least_cover(wish)
        self.assertIs(type(answer), tuple)
        cover, tree = answer
        every = wanted_primes(wish)
        self.assertIs(type(cover), list)
        self.assertEqual(cover, [prime for prime in every if prime in cover])
        self.assertTrue(covers(cover, wish))
        self.assertEqual(len(cover), fewest(wish))
        wanted = wanted_tree(wish, len(cover) - 1) if cover else None
        self.assertTrue(same_kind(tree, wanted), (wish, tree, wanted))
        self.assertIs(shows_cover(wish, len(cover) - 1, tree), True)

    def test_all_wishes_of_few_places(self):
        for many in range(3):
            for wish in product((F, T, N), repeat=1 << many):
                self.check(list(wish))

    def test_drawn_wishes(self):
        for wish in chance_wishes(103, 250):
            self.check(wish)

    def test_no_place(self):
        self.assertEqual(least_cover([T]), ([()], (0, ())))
        self.assertEqual(least_cover([F]), ([], None))
        self.assertEqual(least_cover([N]), ([], None))

    def test_all_of_one_kind(self):
        for many in range(5):
            self.assertEqual(least_cover([T] * (1 << many)), ([(N,) * many], (0, ())))
            self.assertEqual(least_cover([F] * (1 << many)), ([], None))
            self.assertEqual(least_cover([N] * (1 << many)), ([], None))

    def test_a_ring_of_primes(self):
        self.check(RING)
        self.assertEqual(len(least_cover(RING)[0]), 3)

    def test_eight_cubes(self):
        self.check(ODDS)
        self.assertEqual(len(least_cover(ODDS)[0]), 8)

    def test_the_greatest_cube_is_in_no_least_cover(self):
        self.check(GREEDY)
        cover = least_cover(GREEDY)[0]
        self.assertEqual(len(cover), 4)
        self.assertIn((N, T, N, T), wanted_primes(GREEDY))
        self.assertNotIn((N, T, N, T), cover)

    def test_no_table(self):
        for length in NO_WISHES:
            refused_with(self, NoTable, least_cover, [T] * length)


class ShowsCover(unittest.TestCase):
    def test_a_small_tree_step_by_step(self):
        wish = [F, T, T, F]
        tree = (1, (((F, T), (2, ())),))
        self.assertIs(shows_cover(wish, 1, tree), True)
        self.assertIs(shows_cover(wish, 1, (2, (((T, F), (1, ())),))), True)
        self.assertIs(shows_cover(wish, 0, (2, ())), True)
        self.assertIs(shows_cover(wish, 0, (1, ())), True)
        self.assertIs(shows_cover(wish, 2, tree), False)
        self.assertIs(shows_cover(wish, 0, tree), False)
        self.assertIs(shows_cover(wish, -1, tree), False)
        self.assertIs(shows_cover(wish, 1, (1, (((F, T), (1, ())),))), False)
        self.assertIs(shows_cover(wish, 1, (0, (((F, T), (2, ())),))), False)

    def test_below_nought_and_nought(self):
        for wish in ([T], [F], [N], RING, [F] * 16):
            self.assertIs(shows_cover(wish, -1, None), True)
            for thing in ((), (0, ()), 0, False, [], "", (None,)):
                self.assertIs(shows_cover(wish, -1, thing), False)
            self.assertIs(shows_cover(wish, 0, None), False)
        for number in range(-3, 12):
            fine = 0 <= number < 8 and RING[number] is T
            self.assertIs(shows_cover(RING, 0, (number, ())), fine)
        self.assertIs(shows_cover([F, F], 0, (0, ())), False)
        self.assertIs(shows_cover([N, T], 0, (0, ())), False)
        self.assertIs(shows_cover([N, T], 0, (1, ())), True)

    def test_rows_need_not_be_the_rarest(self):
        wish = [T, T, T, F, N, F, F, F]
        every = wanted_primes(wish)
        for first in wished(wish):
            branches = []
            for prime in [one for one in every if first in wanted_rows(one)]:
                left = [number for number in wished(wish) if number not in wanted_rows(prime)]
                branches.append((prime, (left[-1], ())))
            self.assertIs(shows_cover(wish, 1, (first, tuple(branches))), True)

    def test_no_tree_shows_what_is_not_so(self):
        for wish in chance_wishes(107, 60):
            cover, tree = least_cover(wish)
            for count in range(-1, len(cover) + 2):
                self.assertIs(shows_cover(wish, count, tree), count == len(cover) - 1)

    def test_of_another_wish(self):
        tree = least_cover(RING)[1]
        self.assertIs(shows_cover([T] * 8, 2, tree), False)
        self.assertIs(shows_cover([not wanted for wanted in RING], 2, tree), False)
        self.assertIs(shows_cover(ODDS, 7, least_cover([not wanted for wanted in ODDS])[1]), False)

    def refused_parts(self, wish, count, tree):
        """One change at each tuple of a tree; none of them is a tree any more."""
        for way, part in parts_of(tree):
            number, branches = part
            changed = [
                None, True, number, "tree", [], (), list(part), part + ((),), (number,), (branches, number),
                (str(number), branches), ((number,), branches), (None, branches), (-1, branches),
                (len(wish), branches), (number - len(wish), branches), (number, list(branches)), (number, None),
                (number, 0), (number, branches + (((), ()),)), (float(number), branches),
            ]
            if number in (0, 1):
                changed.append((number == 1, branches))
            for unwished in [one for one in range(len(wish)) if wish[one] is not T]:
                changed.append((unwished, branches))
            if branches:
                changed += [(number, ()), (number, branches[1:]), (number, branches[:-1]),
                            (number, branches + branches[-1:]), (number, branches[:1] + branches)]
                if len(branches) > 1:
                    changed += [(number, branches[::-1]), (number, branches[:1] * len(branches))]
            for place, branch in enumerate(branches):
                for other in self.changed_branches(branch):
                    changed.append((number, branches[:place] + (other,) + branches[place + 1:]))
            for other in changed:
                self.assertIs(shows_cover(wish, count, exchanged(tree, way, other)), False, (way, other))

    def changed_branches(self, branch):
        prime, tree = branch
        numbers = tuple(int(truth) if truth is not None else None for truth in prime)
        others = [None, prime, list(branch), (prime,), branch + (tree,), (tree, prime), (list(prime), tree),
                  (prime + (N,), tree), (None, tree), ("", tree), (prime, None), (prime, True), (prime, "")]
        if numbers and any(one is not None for one in numbers):
            others.append((numbers, tree))
        if prime:
            others += [(prime[:-1], tree), (tuple("no" for truth in prime), tree)]
        for place, truth in enumerate(prime):
            for other in (F, T, N, 0, 1, "1"):
                if type(other) is not type(truth) or other != truth:
                    others.append((prime[:place] + (other,) + prime[place + 1:], tree))
        return others

    def test_one_change_in_a_tree(self):
        for wish in ([T], [T, F], [F, T, T, F], RING, [T, T, T, F, N, F, F, F]):
            cover, tree = least_cover(wish)
            self.refused_parts(wish, len(cover) - 1, tree)

    def test_one_change_in_drawn_trees(self):
        taken = 0
        for wish in chance_wishes(109, 40):
            cover, tree = least_cover(wish)
            if tree is not None and len(parts_of(tree)) < 12:
                self.refused_parts(wish, len(cover) - 1, tree)
                taken += 1
        self.assertGreater(taken, 10)

    def test_a_row_that_is_in_the_cubes_already(self):
        cover, tree = least_cover(RING)
        for way, part in parts_of(tree):
            if way:
                above = tree
                for place in way[:-1]:
                    above = above[1][place][1]
                self.assertIs(shows_cover(RING, 2, exchanged(tree, way, (above[0], part[1]))), False)

    def test_two_branches_exchanged(self):
        cover, tree = least_cover(RING)
        number, branches = tree
        crossed = tuple((branches[place][0], branches[1 - place][1]) for place in range(2))
        self.assertIs(shows_cover(RING, 2, (number, crossed)), False)

    def test_things_that_are_no_trees(self):
        things = (None, True, False, 0, 1, 7, -1, "", "tree", "1", [], (), [0, ()], (0,), (0, (), ()), ((), 0), {},
                  {0: ()}, (0, []), (0, {}), (0, None), (0, 0), (0, False), (0, ""), ("0", ()), (None, ()), ((0,), ()),
                  ([0], ()), (0, (())), ((0, ()), ()), (False, ()), (True, ()), 3.5, (N, N, N), RING)
        for thing in things:
            fine = same_kind(thing, (0, ()))
            for count in range(0, 4):
                self.assertIs(shows_cover(RING, count, thing), fine and count == 0, (count, thing))

    def test_no_table(self):
        for length in NO_WISHES:
            for count in (-1, 0, 2):
                refused_with(self, NoTable, shows_cover, [T] * length, count, None)
                refused_with(self, NoTable, shows_cover, [T] * length, count, (0, ()))


class NothingChanges(unittest.TestCase):
    def test_what_is_handed_in_and_what_is_told(self):
        for wish in (RING, GREEDY, [T, N, F, T], [F], [N, N]):
            leaves_alone(self, least_cover, wish)
            cover, tree = least_cover(wish)
            leaves_alone(self, shows_cover, wish, len(cover) - 1, tree)
        leaves_alone(self, shows_cover, [T, F], 0, [0, [[], ()]])

    def test_drawn_ones_asked_again(self):
        random = Random(113)
        for wish in chance_wishes(127, 30):
            again = [wanted for wanted in wish]
            least_cover([random.choice((F, T, N)) for number in range(1 << many_of(wish))])
            self.assertTrue(same_kind(least_cover(wish), least_cover(again)))
