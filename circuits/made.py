"""Circuits made of machines, with as few cells as can be."""

from circuits.covers import form_of_cover
from circuits.errors import TooGreat
from circuits.leasts import least_cover
from circuits.rows import row_of, rows_many
from circuits.small import small
from circuits.tables import form_of_table

MOST_CELLS = 4
MOST_ANSWERS = 6
MOST_WISHED = 4


def circuit_of(machine):
    least = least_within(machine)
    cells = cells_for(least)
    forms = [form_of_wish(wish) for wish in wishes_of(least)]
    held = tuple([(False, form) for form in forms[:cells]])
    return (least[0], held, tuple(forms[cells:]))


def covers_of(machine):
    least = least_within(machine)
    if least[0] + cells_for(least) > MOST_WISHED:
        raise TooGreat("the truths that come in and the cells are too many for covers")
    return [least_cover(wish) for wish in wishes_of(least)]


def least_within(machine):
    least = small(machine)[0]
    if cells_for(least) > MOST_CELLS:
        raise TooGreat("the machine has too many unlike states")
    if least[1] > MOST_ANSWERS:
        raise TooGreat("the machine answers too many truths")
    return least


def cells_for(machine):
    cells = 0
    while rows_many(cells) < len(machine[2]):
        cells = cells + 1
    return cells


def wishes_of(machine):
    # A wish for the next truth of each cell, then one for each answer.
    cells = cells_for(machine)
    truths = [truths_at(machine, cells, number) for number in range(rows_many(machine[0] + cells))]
    return [[told[place] for told in truths] for place in range(cells + machine[1])]


def truths_at(machine, cells, number):
    # The truths that come in are the first part of the row, the cells the last.
    state = number % rows_many(cells)
    if state >= len(machine[2]):
        return (None,) * (cells + machine[1])
    pair = machine[2][state][number // rows_many(cells)]
    return row_of(pair[1], cells) + pair[0]


def form_of_wish(wish):
    if len(wish) <= rows_many(MOST_WISHED):
        return form_of_cover(least_cover(wish)[0])
    return form_of_table([wanted is True for wanted in wish])
