"""Cubes: at each place a truth, or None where either will do."""

from circuits.rows import all_rows

SIGNS = {True: "1", False: "0", None: "-"}


def in_cube(cube, row):
    if len(cube) != len(row):
        return False
    return all([wanted is None or wanted == truth for wanted, truth in zip(cube, row)])


def rows_in(cube):
    return [number for number, row in enumerate(all_rows(len(cube))) if in_cube(cube, row)]


def cube_text(cube):
    return "".join([SIGNS[truth] for truth in cube])
