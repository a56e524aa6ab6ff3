"""Least covers, and trees that show that fewer cubes don't do."""

from circuits.covers import primes, rows_left, wished_rows
from circuits.cubes import cube_text, rows_in
from circuits.things import is_tuple_of, is_whole, same_truth


def least_cover(wish):
    reaches = reaches_of(wish)
    wished = wished_rows(wish)
    count = 0
    tree = None
    found = tried(reaches, wished, count)
    while found[0] == "tree":
        tree = found[1]
        count = count + 1
        found = tried(reaches, wished, count)
    return (sorted(found[1], key=cube_text), tree)


def reaches_of(wish):
    return [(prime, rows_in(prime)) for prime in primes(wish)]


def tried(reaches, left, count):
    # Either a cover of the rows left, of at most so many cubes, or the tree
    # that shows that there is none.
    if len(left) == 0:
        return ("cover", [])
    number = rarest(reaches, left)
    if count == 0:
        return ("tree", (number, ()))
    branches = []
    for prime, rows in having(reaches, number):
        found = tried(reaches, rows_left(left, rows), count - 1)
        if found[0] == "cover":
            return ("cover", [prime] + found[1])
        branches.append((prime, found[1]))
    return ("tree", (number, tuple(branches)))


def rarest(reaches, left):
    # The rows left rise, and of several min takes the first.
    return min(left, key=lambda number: len(having(reaches, number)))


def having(reaches, number):
    return [reach for reach in reaches if number in reach[1]]


def shows_cover(wish, count, tree):
    reaches = reaches_of(wish)
    if count < 0:
        return tree is None
    return is_tree(tree, reaches, wished_rows(wish), count)


def is_tree(thing, reaches, left, count):
    if not is_tuple_of(thing, 2):
        return False
    number = thing[0]
    branches = thing[1]
    if not is_whole(number) or number not in left or not isinstance(branches, tuple):
        return False
    if count == 0:
        return len(branches) == 0
    wanted = having(reaches, number)
    if len(branches) != len(wanted):
        return False
    return all([is_branch(branch, reach, reaches, left, count) for branch, reach in zip(branches, wanted)])


def is_branch(thing, reach, reaches, left, count):
    if not is_tuple_of(thing, 2) or not is_cube(thing[0], reach[0]):
        return False
    return is_tree(thing[1], reaches, rows_left(left, reach[1]), count - 1)


def is_cube(thing, cube):
    if not is_tuple_of(thing, len(cube)):
        return False
    return all([same_truth(part, truth) for part, truth in zip(thing, cube)])
