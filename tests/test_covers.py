import unittest
from itertools import product
from random import Random

from circuits import covers as module
from circuits.covers import covers, fits, form_of_cover, primes
from circuits.cubes import cube_text, in_cube
from circuits.errors import NoTable
from circuits.forms import value
from circuits.notes import read, shown
from tests.samples import (
    TWELVE, arguments_are, depth, is_form, leaves_alone, most_brackets, refused_with, rows_of, tuples,
)
from tests.test_cubes import cubes_of, wanted_rows

F, T, N = False, True, None
NO_WISHES = (0, 3, 5, 6, 7, 9, 12, 15, 17, 31, 32, 64, 1024)


def chance_wish(random, many):
    parts = random.choice(((F, T), (F, T, N), (T, N), (F, T, T, N, N, N), (F, F, F, T)))
    return [random.choice(parts) for number in range(1 << many)]


def chance_wishes(seed, count, most=4):
    random = Random(seed)
    return [chance_wish(random, random.randrange(most + 1)) for number in range(count)]


def many_of(wish):
    return len(wish).bit_length() - 1


def wanted_primes(wish):
    """Of all cubes that fit and have a row wished True: those whose rows aren't all in a greater one that fits."""
    fitting = {}
    for cube in cubes_of(many_of(wish)):
        rows = wanted_rows(cube)
        if all(wish[number] is not F for number in rows):
            fitting[cube] = set(rows)
    greatest = [cube for cube, rows in fitting.items() if not any(rows < other for other in fitting.values())]
    kept = [cube for cube in greatest if any(wish[number] is T for number in fitting[cube])]
    return sorted(kept, key=lambda cube: "".join("-" if one is N else str(int(one)) for one in cube))


class Interface(unittest.TestCase):
    def test_names_and_arguments(self):
        arguments_are(self, module, {
            "fits": ["cube", "wish"], "primes": ["wish"], "covers": ["cover", "wish"], "form_of_cover": ["cover"],
        })


class Fits(unittest.TestCase):
    def test_ordinary(self):
        wish = [T, N, F, T]
        self.assertIs(fits((F, N), wish), True)
        self.assertIs(fits((N, T), wish), True)
        self.assertIs(fits((N, F), wish), False)
        self.assertIs(fits((T, F), wish), False)
        self.assertIs(fits((F, T), wish), True)

    def test_all_cubes_of_drawn_wishes(self):
        for wish in chance_wishes(73, 60):
            for cube in cubes_of(many_of(wish)):
                self.assertIs(fits(cube, wish), not any(wish[number] is F for number in wanted_rows(cube)))

    def test_a_cube_of_another_length_does_not_fit(self):
        self.assertIs(fits((T,), [T] * 4), False)
        self.assertIs(fits((N, N, N), [T] * 4), False)

    def test_no_place(self):
        self.assertIs(fits((), [T]), True)
        self.assertIs(fits((), [N]), True)
        self.assertIs(fits((), [F]), False)

    def test_no_table(self):
        for length in NO_WISHES:
            refused_with(self, NoTable, fits, (T, N), [T] * length)
            refused_with(self, NoTable, fits, (), [N] * length)


class Primes(unittest.TestCase):
    def test_ordinary(self):
        self.assertEqual(primes([F, T, T, T]), [(N, T), (T, N)])
        self.assertEqual(primes([T, N, F, F]), [(F, N)])
        self.assertEqual(primes([F, T, T, F]), [(F, T), (T, F)])

    def test_in_order_by_their_texts(self):
        wish = [T, T, F, T, T, F, T, T]
        self.assertEqual([cube_text(cube) for cube in primes(wish)], ["-00", "-11", "0-1", "00-", "1-0", "11-"])

    def test_no_place(self):
        self.assertEqual(primes([T]), [()])
        self.assertEqual(primes([F]), [])
        self.assertEqual(primes([N]), [])

    def test_all_of_one_kind(self):
        for many in range(5):
            self.assertEqual(primes([T] * (1 << many)), [(N,) * many])
            self.assertEqual(primes([F] * (1 << many)), [])
            self.assertEqual(primes([N] * (1 << many)), [])
            self.assertEqual(primes([N] * ((1 << many) - 1) + [T]), [(N,) * many])

    def test_a_prime_has_a_row_that_is_wished_true(self):
        self.assertEqual(primes([N, F, F, T]), [(T, T)])

    def test_all_wishes_of_two_places(self):
        for wish in product((F, T, N), repeat=4):
            self.assertEqual(primes(list(wish)), wanted_primes(list(wish)))

    def test_drawn_wishes(self):
        for wish in chance_wishes(79, 150):
            self.assertEqual(primes(wish), wanted_primes(wish))

    def test_no_table(self):
        for length in NO_WISHES:
            refused_with(self, NoTable, primes, [T] * length)


class Covers(unittest.TestCase):
    def test_ordinary(self):
        wish = [F, T, T, N]
        self.assertIs(covers([(N, T), (T, N)], wish), True)
        self.assertIs(covers([(T, N), (N, T), (T, N)], wish), True)
        self.assertIs(covers([(F, T), (T, F)], wish), True)
        self.assertIs(covers([(N, T)], wish), False)
        self.assertIs(covers([(N, N)], wish), False)
        self.assertIs(covers([(N, T), (T, N), (N, F)], wish), False)
        self.assertIs(covers([(N, F), (N, T), (T, N)], wish), False)

    def test_no_cubes(self):
        self.assertIs(covers([], [F, N, F, F]), True)
        self.assertIs(covers([], [F, N, T, F]), False)
        self.assertIs(covers([], [T]), False)
        self.assertIs(covers([()], [T]), True)
        self.assertIs(covers([()], [F]), False)

    def test_drawn_covers(self):
        random = Random(83)
        told = {F: 0, T: 0}
        for wish in chance_wishes(89, 200, 3):
            all_primes = wanted_primes(wish)
            pool = all_primes + random.sample(cubes_of(many_of(wish)), 1)
            for turn in range(4):
                cover = random.sample(pool, random.randrange(len(pool) + 1))
                inside = {number for cube in cover for number in wanted_rows(cube)}
                wanted = all(wish[number] is not F for number in inside) and all(
                    number in inside for number in range(len(wish)) if wish[number] is T
                )
                self.assertIs(covers(cover, wish), wanted)
                told[wanted] += 1
        self.assertGreater(min(told.values()), 100)

    def test_no_table(self):
        for length in NO_WISHES:
            refused_with(self, NoTable, covers, [], [N] * length)
            refused_with(self, NoTable, covers, [(T, N)], [F] * length)


class FormOfCover(unittest.TestCase):
    def check(self, cover, many):
        form = form_of_cover(cover)
        self.assertTrue(is_form(form))
        self.assertLessEqual(depth(form), 60)
        self.assertLessEqual(tuples(form), 1000)
        self.assertLessEqual(most_brackets(shown(form, TWELVE)), 4)
        self.assertEqual(read(shown(form, TWELVE), TWELVE), form)
        for row in rows_of(many):
            self.assertIs(value(form, row), any(in_cube(cube, row) for cube in cover), (cover, row))

    def test_no_cubes(self):
        self.assertEqual(form_of_cover([]), ("is", False))

    def test_one_cube(self):
        for many in range(4):
            for cube in cubes_of(many):
                self.check([cube], many)

    def test_all_none(self):
        for many in range(7):
            self.check([(N,) * many], many)
            self.check([(N,) * many, (T,) * many], many)
            self.check([(F,) * many, (N,) * many], many)

    def test_sixteen_cubes(self):
        random = Random(97)
        for many in (0, 1, 4, 6):
            for turn in range(6):
                self.check([tuple(random.choice((F, T, N)) for place in range(many)) for cube in range(16)], many)
        self.check([row for row in rows_of(6) if sum(row) in (0, 1, 5)][:16], 6)
        self.check([(F,) * 6] * 16, 6)

    def test_drawn_covers(self):
        random = Random(101)
        for count in range(16):
            for many in (2, 3, 5):
                self.check([tuple(random.choice((F, T, N)) for place in range(many)) for cube in range(count)], many)


class NothingChanges(unittest.TestCase):
    def test_what_is_handed_in_and_what_is_told(self):
        wish = [T, T, F, N, T, F, N, T]
        leaves_alone(self, fits, (T, N, N), wish)
        leaves_alone(self, primes, wish)
        leaves_alone(self, primes, [F, F])
        leaves_alone(self, covers, wanted_primes(wish), wish)
        leaves_alone(self, form_of_cover, wanted_primes(wish))
