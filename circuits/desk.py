"""Sheets made least, and two sheets told alike or unlike."""

from circuits.machines import machine_of
from circuits.made import circuit_of
from circuits.pairs import told_machines
from circuits.sheets import read_sheet, shown_sheet

LETTERS = "abcdefghijklmnopqrstuvwxyz"


def least_sheet(text):
    sheet = read_sheet(text)
    ins = sheet[0][0]
    outs = sheet[0][2]
    circuit = circuit_of(machine_of(sheet[1])[0])
    free = [letter for letter in LETTERS if letter not in ins + outs]
    return shown_sheet((ins, tuple(free[:len(circuit[1])]), outs), circuit)


def told_sheets(text, other):
    circuit = read_sheet(text)[1]
    like = read_sheet(other)[1]
    told = told_machines(machine_of(circuit)[0], machine_of(like)[0])
    if told[0] == "alike":
        return "alike"
    numbers = " ".join([str(number) for number in told[1]])
    return f"unlike: {numbers}"
