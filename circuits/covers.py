"""Wishes, the cubes that fit them, their primes and their covers."""

from circuits.cubes import rows_in
from circuits.easing import eased
from circuits.errors import NoTable
from circuits.tables import places_of

MOST_PLACES = 4


def wish_places(wish):
    many = places_of(wish)
    if many > MOST_PLACES:
        raise NoTable("no wish has that length")
    return many


def fits(cube, wish):
    if wish_places(wish) != len(cube):
        return False
    return all([wish[number] is not False for number in rows_in(cube)])


def primes(wish):
    return [cube for cube in all_cubes(wish_places(wish)) if is_prime(cube, wish)]


def all_cubes(many):
    cubes = [()]
    for place in range(many):
        longer = []
        for cube in cubes:
            # So their texts rise: the sign - stands ahead of 0, and 0 of 1.
            longer.extend([cube + (None,), cube + (False,), cube + (True,)])
        cubes = longer
    return cubes


def is_prime(cube, wish):
    if not fits(cube, wish):
        return False
    if not any([wish[number] is True for number in rows_in(cube)]):
        return False
    return not any([fits(wider, wish) for wider in wider_cubes(cube)])


def wider_cubes(cube):
    return [cube[:place] + (None,) + cube[place + 1:] for place in range(len(cube)) if cube[place] is not None]


def covers(cover, wish):
    left = wished_rows(wish)
    for cube in cover:
        if not fits(cube, wish):
            return False
        left = rows_left(left, rows_in(cube))
    return len(left) == 0


def wished_rows(wish):
    wish_places(wish)
    return [number for number, wanted in enumerate(wish) if wanted is True]


def rows_left(numbers, taken):
    return [number for number in numbers if number not in taken]


def form_of_cover(cover):
    form = ("is", False)
    for cube in cover:
        form = eased("or", form, form_of_cube(cube))
    return form


def form_of_cube(cube):
    form = ("is", True)
    for place, truth in enumerate(cube):
        if truth is True:
            form = eased("and", form, ("at", place))
        elif truth is False:
            form = eased("and", form, ("not", ("at", place)))
    return form
