"""Tables: a truth for each row, by the rows' numbers."""

from circuits.easing import chosen
from circuits.errors import NoPlace, NoTable, UnlikeSizes
from circuits.forms import value
from circuits.rows import all_rows, row_of, rows_many

MOST_PLACES = 10


def table(form, many):
    return [value(form, row) for row in all_rows(many)]


def places_of(table):
    for many in range(MOST_PLACES + 1):
        if len(table) == rows_many(many):
            return many
    raise NoTable("no table has that length")


def half(table, place, truth):
    many = places_of(table)
    if place < 0 or place >= many:
        raise NoPlace("the table hasn't that place")
    return [told for number, told in enumerate(table) if row_of(number, many)[place] == truth]


def parting(table, other):
    if places_of(table) != places_of(other):
        raise UnlikeSizes("the tables have unlike lengths")
    for number, told in enumerate(table):
        if told != other[number]:
            return number
    return None


def form_of_table(table):
    places_of(table)
    return form_from(table, 0)


def form_from(truths, place):
    if is_one_truth(truths):
        return ("is", truths[0])
    middle = len(truths) // 2
    low = truths[:middle]
    high = truths[middle:]
    low_form = form_from(low, place + 1)
    if low == high:
        return low_form
    # Without this a form of odds alone would double with each place.
    if not is_one_truth(low) and high == [not truth for truth in low]:
        return ("odd", low_form, ("at", place))
    return chosen(place, low_form, form_from(high, place + 1))


def is_one_truth(truths):
    return all([truth == truths[0] for truth in truths])
