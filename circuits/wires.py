"""Circuits that hold truths in cells, gone through step by step."""

from circuits.errors import NoPlace, UnlikeSizes
from circuits.forms import places_in, value


def stepped(circuit, state, row):
    check_circuit(circuit)
    check_length(state, len(circuit[1]))
    check_length(row, circuit[0])
    return moved(circuit, state, row)


def gone(circuit, rows):
    check_circuit(circuit)
    state = first_state(circuit)
    told = []
    for row in rows:
        check_length(row, circuit[0])
        step = moved(circuit, state, row)
        told.append(step[0])
        state = step[1]
    return told


def check_circuit(circuit):
    many = circuit[0] + len(circuit[1])
    for form in next_forms(circuit) + list(circuit[2]):
        if any([place < 0 or place >= many for place in places_in(form)]):
            raise NoPlace("a form of the circuit has a place that isn't there")


def check_length(truths, length):
    if len(truths) != length:
        raise UnlikeSizes("there are too many truths, or too few")


def first_state(circuit):
    return tuple([first for first, form in circuit[1]])


def next_forms(circuit):
    return [form for first, form in circuit[1]]


def moved(circuit, state, row):
    truths = row + state
    told = tuple([value(form, truths) for form in circuit[2]])
    return (told, tuple([value(form, truths) for form in next_forms(circuit)]))
