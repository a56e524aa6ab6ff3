import unittest
from random import Random

from circuits import desk as module
from circuits.desk import least_sheet, told_sheets
from circuits.errors import BadSheet, UnlikeSizes
from circuits.machines import machine_of
from circuits.made import circuit_of
from circuits.notes import shown
from circuits.pairs import told_machines
from circuits.sheets import read_sheet, shown_sheet
from circuits.small import small
from circuits.wires import gone
from tests.samples import (
    arguments_are, chance_circuit, chance_rows, circuit_with, leaves_alone, most_of_each, named, refused_with,
)
from tests.test_sheets import ADDER, MOST, sheets

F, T = False, True
LETTERS = "abcdefghijklmnopqrstuvwxyz"
BAD = ("", "x", "in a a", "in\nout a = q", "in a\nheld b no = (", "in\nheld a maybe = a", "out a = yes\nin", "in\n\t")

# Two cells that always hold the same: one does.
TWICE = "in x\nheld left no = left odd x\nheld right no = x odd right\nout a = left and right\nout e = left or right\n"


def wanted_least(text):
    """As 10.4 tells it, row by row, of the circuit that 9.1 makes."""
    (ins, cells, outs), circuit = read_sheet(text)
    many, held, forms = circuit_of(machine_of(circuit)[0])
    letters = [letter for letter in LETTERS if letter not in ins and letter not in outs][:len(held)]
    known = ins + tuple(letters)
    rows = [" ".join(("in",) + ins)]
    rows += [f"held {letter} no = {shown(form, known)}" for letter, (first, form) in zip(letters, held)]
    rows += [f"out {name} = {shown(form, known)}" for name, form in zip(outs, forms)]
    return "\n".join(rows) + "\n"


def least_of(text):
    return small(machine_of(read_sheet(text)[1])[0])[0]


class Interface(unittest.TestCase):
    def test_names_and_arguments(self):
        arguments_are(self, module, {"least_sheet": ["text"], "told_sheets": ["text", "other"]})


class LeastSheet(unittest.TestCase):
    def check(self, text, rows_seed=1):
        told = least_sheet(text)
        self.assertEqual(told, wanted_least(text))
        names, circuit = read_sheet(told)
        own_names, own = read_sheet(text)
        self.assertEqual((names[0], names[2]), (own_names[0], own_names[2]))
        rows = chance_rows(Random(rows_seed), own[0], 25)
        self.assertEqual(gone(circuit, rows), gone(own, rows))
        states = len(least_of(text)[2])
        self.assertLess(2 ** len(circuit[1]), 2 * states)
        self.assertGreaterEqual(2 ** len(circuit[1]), states)
        self.assertEqual(least_of(told), least_of(text))
        self.assertEqual(told_sheets(text, told), "alike")

    def test_ordinary(self):
        self.check(ADDER)
        self.check(MOST)
        self.check(TWICE)
        self.assertEqual(least_sheet(TWICE),
                         "in x\nheld b no = not x and b or x and not b\nout a = b\nout e = b\n")

    def test_nothing_at_all(self):
        self.assertEqual(least_sheet("in"), "in\n")
        self.assertEqual(least_sheet("  in   b  a \n\n"), "in b a\n")

    def test_no_cell_is_needed(self):
        self.assertEqual(least_sheet("in p\nheld q no = not q\nout r = p"), "in p\nout r = p\n")
        self.assertEqual(least_sheet("in\nheld q yes = q\nout r = q and yes"), "in\nout r = yes\n")
        self.assertEqual(least_sheet("in p\nheld q no = p"), "in p\n")

    def test_cells_are_named_by_the_first_free_letters(self):
        shift = "held cellone no = {0}\nheld celltwo no = cellone\nheld cellthr no = celltwo\nheld cellfou no = cellthr\n"
        text = "in {0}\n" + shift + "out {1} = cellfou\n"
        for first, last, cells in (("a", "b", "cdef"), ("x", "y", "abcd"), ("b", "d", "acef"), ("c", "a", "bdef"),
                                   ("bb", "a", "bcde"), ("z", "c", "abde")):
            told = least_sheet(text.format(first, last))
            self.assertEqual(read_sheet(told)[0], ((first,), tuple(cells), (last,)))
            self.check(text.format(first, last))
        many = "in a b c\nheld q no = a\nheld r no = q\nheld s no = r\nheld t no = s\n" + "".join(
            f"out {name} = t\n" for name in "defghi")
        self.assertEqual(read_sheet(least_sheet(many))[0][1], tuple("jklm"))
        self.check(many)

    def test_the_cells_own_names_are_free(self):
        told = least_sheet("in x\nheld a no = x\nout y = a")
        self.assertEqual(told, "in x\nheld a no = x\nout y = a\n")
        told = least_sheet("in x\nheld b no = x\nout y = b")
        self.assertEqual(told, "in x\nheld a no = x\nout y = a\n")

    def test_drawn_sheets(self):
        for number, (names, circuit) in enumerate(sheets(60, 653)):
            self.check(shown_sheet(names, circuit), number)

    def test_bad_sheets(self):
        for text in BAD:
            refused_with(self, BadSheet, least_sheet, text)


class ToldSheets(unittest.TestCase):
    def test_alike(self):
        self.assertEqual(told_sheets(ADDER, ADDER), "alike")
        self.assertEqual(told_sheets("in", "in\n"), "alike")

    def test_other_names(self):
        other = ADDER.replace("sum", "total").replace("a", "f").replace("totfl", "total").replace("fnd", "and")
        self.assertEqual(told_sheets(ADDER, other), "alike")
        self.assertEqual(told_sheets("in x y\nout z = x and y", "in y x\nout q = x and y"), "alike")
        self.assertEqual(told_sheets("in x y\nout z = x and not y", "in y x\nout q = x and not y"), "unlike: 1")
        one = "in x\nheld x no = x"
        refused_with(self, BadSheet, told_sheets, one, one)

    def test_unlike(self):
        self.assertEqual(told_sheets(ADDER, ADDER.replace("held c no", "held c yes")), "unlike: 0")
        self.assertEqual(told_sheets(ADDER, ADDER.replace("(a or b)", "a")), "unlike: 3 1 0")
        later = "in a\nheld b no = a\nheld c no = b\nout d = {0}"
        self.assertEqual(told_sheets(later.format("c"), later.format("b")), "unlike: 1 0")
        self.assertEqual(told_sheets(later.format("c"), later.format("no")), "unlike: 1 0 0")
        self.assertEqual(told_sheets("in\nout a = yes", "in\nout b = no"), "unlike: 0")
        self.assertEqual(told_sheets("in a b c\nout d = a and b and c", "in a b c\nout d = no"), "unlike: 7")

    def test_as_the_machines_are_told(self):
        random = Random(659)
        told_so = {"alike": 0, "unlike": 0}
        for turn in range(150):
            sizes = (random.randrange(3), random.randrange(3), random.randrange(1, 3), 3)
            one, two = circuit_with(random, *sizes), circuit_with(random, *sizes)
            texts = [shown_sheet(named(random, circuit), circuit) for circuit in (one, two)]
            word, what = told_machines(machine_of(one)[0], machine_of(two)[0])
            wanted = "alike" if word == "alike" else "unlike: " + " ".join(str(number) for number in what)
            self.assertEqual(told_sheets(*texts), wanted)
            self.assertEqual(told_sheets(*texts) == "alike", least_of(texts[0]) == least_of(texts[1]))
            told_so[word] += 1
        self.assertGreater(min(told_so.values()), 15)

    def test_bad_sheets_of_either(self):
        for text in BAD:
            refused_with(self, BadSheet, told_sheets, text, ADDER)
            refused_with(self, BadSheet, told_sheets, ADDER, text)
            refused_with(self, BadSheet, told_sheets, text, text)

    def test_unlike_sizes(self):
        for other in ("in\nout a = yes", "in a\nout b = a", "in a b c\nout d = a", "in a b", "in a b\nout c = a\nout d = b"):
            refused_with(self, UnlikeSizes, told_sheets, ADDER, other)
            refused_with(self, UnlikeSizes, told_sheets, other, ADDER)

    def test_bad_sheets_ahead_of_unlike_sizes(self):
        for text in BAD:
            refused_with(self, BadSheet, told_sheets, text, "in")
            refused_with(self, BadSheet, told_sheets, "in", text)


class NothingChanges(unittest.TestCase):
    def test_asked_again(self):
        random = Random(661)
        for turn in range(10):
            circuit = chance_circuit(random) if turn else most_of_each(3)
            text = shown_sheet(named(random, circuit), circuit)
            leaves_alone(self, least_sheet, text)
            leaves_alone(self, told_sheets, text, least_sheet(text))
