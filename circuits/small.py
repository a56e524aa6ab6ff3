"""The least machine that answers alike, and numbers that show that one does."""

from circuits.machines import check_machine, come_to, is_state
from circuits.partings import kinds_by_length


def small(machine):
    check_machine(machine)
    states = machine[2]
    kinds = kinds_by_length(states)[-1]
    found = come_to(kinds[0], lambda kind: pairs_of_kind(states, kinds, kind))
    numbers = [None] * len(states)
    for number in come_to(0, lambda place: states[place])[1]:
        numbers[number] = found[1].index(kinds[number])
    return ((machine[0], machine[1], found[0]), numbers)


def pairs_of_kind(states, kinds, kind):
    # Any state of a kind will do: they are alike.
    return [(told, kinds[follower]) for told, follower in states[kinds.index(kind)]]


def shows_small(machine, other, numbers):
    check_machine(machine)
    check_machine(other)
    if machine[0] != other[0] or machine[1] != other[1] or len(numbers) != len(machine[2]):
        return False
    if not all([number is None or is_state(other, number) for number in numbers]):
        return False
    if numbers[0] != 0:
        return False
    return all([goes_as(state, other, numbers, number) for state, number in zip(machine[2], numbers)])


def goes_as(state, other, numbers, number):
    if number is None:
        return True
    for pair, wanted in zip(state, other[2][number]):
        if pair[0] != wanted[0] or numbers[pair[1]] != wanted[1]:
            return False
    return True
