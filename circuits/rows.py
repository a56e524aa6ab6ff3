"""Rows of truths and their numbers: place 0 tells the greatest part."""

from circuits.errors import NoRow


def row_of(number, many):
    truths = []
    rest = number
    for step in range(many):
        truths.append(rest % 2 == 1)
        rest = rest // 2
    # Halved so often, just the numbers of rows come to nought: those beyond
    # stay above it, and those below it never reach it.
    if rest != 0:
        raise NoRow("no row of so many places has that number")
    return tuple(reversed(truths))


def rows_many(many):
    count = 1
    for place in range(many):
        count = 2 * count
    return count


def all_rows(many):
    return [row_of(number, many) for number in range(rows_many(many))]


def number_of(row):
    number = 0
    for truth in row:
        number = 2 * number + (1 if truth else 0)
    return number
