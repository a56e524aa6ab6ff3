import unittest
from itertools import product

from circuits import cubes as module
from circuits.cubes import cube_text, in_cube, rows_in
from tests.samples import arguments_are, leaves_alone, rows_of

F, T, N = False, True, None


def cubes_of(many):
    return list(product((F, T, N), repeat=many))


def wanted_rows(cube):
    """By its numbers alone: what the places that aren't None tell, and all that the others may."""
    numbers = [0]
    for truth in cube:
        ends = [0, 1] if truth is None else [int(truth)]
        numbers = [2 * number + end for number in numbers for end in ends]
    return numbers


class Cubes(unittest.TestCase):
    def test_names_and_arguments(self):
        arguments_are(self, module, {"in_cube": ["cube", "row"], "rows_in": ["cube"], "cube_text": ["cube"]})

    def test_in_cube(self):
        self.assertIs(in_cube((T, N, F), (T, T, F)), True)
        self.assertIs(in_cube((T, N, F), (T, F, F)), True)
        self.assertIs(in_cube((T, N, F), (F, F, F)), False)
        self.assertIs(in_cube((T, N, F), (T, F, T)), False)

    def test_a_row_of_another_length_is_in_none(self):
        self.assertIs(in_cube((T, N), (T,)), False)
        self.assertIs(in_cube((T, N), (T, T, T)), False)
        self.assertIs(in_cube((), (T,)), False)

    def test_rows_in(self):
        self.assertEqual(rows_in((T, N, F)), [4, 6])
        self.assertEqual(rows_in((N, F)), [0, 2])
        self.assertEqual(rows_in((F, T)), [1])

    def test_no_place(self):
        self.assertIs(in_cube((), ()), True)
        self.assertEqual(rows_in(()), [0])
        self.assertEqual(cube_text(()), "")

    def test_all_none_and_none_none(self):
        for many in range(7):
            self.assertEqual(rows_in((N,) * many), list(range(1 << many)))
            for number, row in enumerate(rows_of(many)):
                self.assertEqual(rows_in(row), [number])
                self.assertIs(in_cube((N,) * many, row), True)

    def test_all_cubes_and_rows_of_few_places(self):
        for many in range(4):
            for cube in cubes_of(many):
                self.assertEqual(rows_in(cube), wanted_rows(cube))
                for number, row in enumerate(rows_of(many)):
                    self.assertIs(in_cube(cube, row), number in wanted_rows(cube))

    def test_six_places(self):
        for cube in cubes_of(6)[::7]:
            self.assertEqual(rows_in(cube), wanted_rows(cube))
            inside = [in_cube(cube, row) for row in rows_of(6)]
            self.assertEqual([number for number in range(64) if inside[number]], wanted_rows(cube))

    def test_texts(self):
        self.assertEqual(cube_text((T, F, N)), "10-")
        self.assertEqual(cube_text((N, N, T, T, F, F)), "--1100")
        for many in range(5):
            for cube in cubes_of(many):
                self.assertEqual(cube_text(cube), "".join("-" if one is N else str(int(one)) for one in cube))

    def test_nothing_changes(self):
        leaves_alone(self, in_cube, (T, N), (T, F))
        leaves_alone(self, rows_in, (T, N, N))
        leaves_alone(self, cube_text, (T, N, F))
