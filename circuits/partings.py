"""States of one machine that are unlike, and the rows that part them."""

from circuits.machines import check_machine


def partings(machine):
    check_machine(machine)
    states = machine[2]
    levels = kinds_by_length(states)
    kinds = levels[-1]
    parted = {}
    for first in range(len(states)):
        for second in range(first + 1, len(states)):
            if kinds[first] != kinds[second]:
                parted[(first, second)] = parting_rows(states, levels, first, second)
    return parted


def kinds_by_length(states):
    # At place k two states are of one kind where they answer alike to every
    # list of k rows. The last ones are those for lists of any length.
    levels = [[0] * len(states)]
    finer = finer_kinds(states, levels[-1])
    while max(finer) > max(levels[-1]):
        levels.append(finer)
        finer = finer_kinds(states, finer)
    return levels


def finer_kinds(states, kinds):
    numbers = {}
    finer = []
    for state in states:
        seen = tuple([(told, kinds[follower]) for told, follower in state])
        if seen not in numbers:
            numbers[seen] = len(numbers)
        finer.append(numbers[seen])
    return finer


def parting_rows(states, levels, first, second):
    length = 0
    while levels[length][first] == levels[length][second]:
        length = length + 1
    numbers = []
    left = first
    right = second
    while length > 0:
        length = length - 1
        number = parting_row(states[left], states[right], levels[length], length)
        numbers.append(number)
        left = states[left][number][1]
        right = states[right][number][1]
    return numbers


def parting_row(state, other, kinds, length):
    # With no length left they answer unlike here; else the first row is taken
    # that leads to states which lists of the length that is left can part.
    number = 0
    while not parts(state[number], other[number], kinds, length):
        number = number + 1
    return number


def parts(pair, other, kinds, length):
    if length == 0:
        return pair[0] != other[0]
    return kinds[pair[1]] != kinds[other[1]]
