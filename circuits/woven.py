"""Two machines woven into one that answers as both."""

from circuits.errors import UnlikeSizes
from circuits.machines import check_machine, come_to


def woven(machine, other):
    check_both(machine, other)
    found = come_to((0, 0), lambda pair: both_pairs(machine[2][pair[0]], other[2][pair[1]]))
    return ((machine[0], machine[1] + other[1], found[0]), found[1])


def check_both(machine, other):
    check_machine(machine)
    check_machine(other)
    if machine[0] != other[0]:
        raise UnlikeSizes("one machine takes more truths than the other")


def both_pairs(state, other):
    return [(pair[0] + like[0], (pair[1], like[1])) for pair, like in zip(state, other)]
