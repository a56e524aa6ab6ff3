"""Machines: states that answer row by row, and the machine of a circuit."""

from circuits.errors import NoMachine
from circuits.rows import all_rows, number_of, rows_many
from circuits.wires import check_length, first_state, moved


def answers(machine, rows):
    return gone_through(machine, rows)[0]


def state_behind(machine, rows):
    return gone_through(machine, rows)[1]


def gone_through(machine, rows):
    check_machine(machine)
    told = []
    number = 0
    for row in rows:
        check_length(row, machine[0])
        pair = machine[2][number][number_of(row)]
        told.append(pair[0])
        number = pair[1]
    return (told, number)


def check_machine(machine):
    states = machine[2]
    pairs_many = rows_many(machine[0])
    if len(states) == 0:
        raise NoMachine("a machine has a state at least")
    for state in states:
        if len(state) != pairs_many:
            raise NoMachine("a state hasn't a pair for each row")
        for told, follower in state:
            if len(told) != machine[1]:
                raise NoMachine("a state answers too many truths, or too few")
            if not is_state(machine, follower):
                raise NoMachine("a state leads to none of the states")


def is_state(machine, number):
    return 0 <= number and number < len(machine[2])


def machine_of(circuit):
    rows = all_rows(circuit[0])
    found = come_to(first_state(circuit), lambda state: [moved(circuit, state, row) for row in rows])
    return ((circuit[0], len(circuit[2]), found[0]), found[1])


def come_to(begin, pairs_of):
    # Things are states told in whatever way; pairs_of tells what one answers
    # to each row, and the thing to which that leads. They are numbered as
    # they are come to.
    things = [begin]
    numbers = {begin: 0}
    states = []
    while len(states) < len(things):
        thing = things[len(states)]
        state = []
        for told, follower in pairs_of(thing):
            if follower not in numbers:
                numbers[follower] = len(things)
                things.append(follower)
            state.append((told, numbers[follower]))
        states.append(state)
    return (states, things)
