import unittest
from random import Random

from circuits import sheets as module
from circuits.errors import BadSheet, NoName, NoPlace
from circuits.notes import shown
from circuits.sheets import fault_row, read_sheet, shown_sheet
from tests.samples import (
    WORDS, arguments_are, chance_circuit, leaves_alone, most_brackets, most_of_each, named, refused_with, same_kind,
)
from tests.test_wires import COUNTER, NOTHING, with_form

A, B, C = ("at", 0), ("at", 1), ("at", 2)
YES, NO = ("is", True), ("is", False)
F, T = False, True

ADDER = "in a b\nheld c no = a and b or c and (a or b)\nout sum = a odd b odd c\n"
ADDER_READ = (
    (("a", "b"), ("c",), ("sum",)),
    (2, ((F, ("or", ("and", A, B), ("and", C, ("or", A, B)))),), (("odd", ("odd", A, B), C),)),
)
MOST = (
    "in a b c\nheld d yes = e\nheld e no = f\nheld f yes = g\nheld g no = d and a\n"
    "out p = a\nout q = b\nout r = c\nout s = d\nout t = e\nout u = g\n"
)
NO_NAMES = WORDS + ("in", "held", "out", "abcdefghi", "A", "aB", "a1", "1", "_", "a_b", "(a)", "a,b", "a\tb", "\t", "~", "-")


def sheets(circuit_count, seed):
    random = Random(seed)
    found = []
    for turn in range(circuit_count):
        circuit = most_of_each(turn) if turn % 5 == 0 else chance_circuit(random)
        found.append((named(random, circuit), circuit))
    return found


class Interface(unittest.TestCase):
    def test_names_and_arguments(self):
        arguments_are(self, module, {
            "read_sheet": ["text"], "fault_row": ["text"], "shown_sheet": ["names", "circuit"],
        })


class Sheets(unittest.TestCase):
    def fine(self, text, wanted):
        self.assertIsNone(fault_row(text), text)
        self.assertTrue(same_kind(read_sheet(text), wanted), text)

    def at_fault(self, text, number):
        self.assertTrue(same_kind(fault_row(text), number), (text, fault_row(text), number))
        refused_with(self, BadSheet, read_sheet, text)

    def stands_not(self, text, number):
        """Whatever the forms are: a later row that can't stand, or a form above, doesn't come ahead of it."""
        self.at_fault(text, number)
        self.at_fault(text + "\nx\n", number)
        self.at_fault(text.replace("yes\n", "q q\n"), number)

    def form_at_fault(self, text, number):
        """A later row that can't stand whatever its form comes ahead of it."""
        self.at_fault(text, number)
        self.at_fault(text + "\nx\n", text.count("\n") + 1)


class ReadSheet(Sheets):
    def test_ordinary(self):
        self.fine(ADDER, ADDER_READ)

    def test_nothing_at_all(self):
        for text in ("in", "in\n", " in ", "\n\nin\n\n", "  \n in \n  \n"):
            self.fine(text, (((), (), ()), NOTHING))

    def test_no_name_in_no_cell_no_answer(self):
        self.fine("in\nheld a yes = not a\nout b = a\n", (((), ("a",), ("b",)), (0, ((T, ("not", A)),), (A,))))
        self.fine("in a\nout b = a", ((("a",), (), ("b",)), (1, (), (A,))))
        self.fine("in a\nheld b no = a", ((("a",), ("b",), ()), (1, ((F, A),), ())))
        self.fine("in\nout a = yes", (((), (), ("a",)), (0, (), (YES,))))

    def test_the_most_of_each(self):
        names, circuit = read_sheet(MOST)
        self.assertEqual(names, (tuple("abc"), tuple("defg"), tuple("pqrstu")))
        self.assertEqual(circuit[0], 3)
        self.assertEqual(circuit[1], (
            (T, ("at", 4)), (F, ("at", 5)), (T, ("at", 6)), (F, ("and", ("at", 3), A)),
        ))
        self.assertEqual(circuit[2], (A, B, C, ("at", 3), ("at", 4), ("at", 6)))
        self.assertIsNone(fault_row(MOST))

    def test_with_and_without_a_line_feed_at_the_end(self):
        self.fine(ADDER.rstrip("\n"), ADDER_READ)
        self.fine(ADDER + "\n\n", ADDER_READ)
        self.fine(ADDER + "   ", ADDER_READ)

    def test_rows_of_blanks_alone(self):
        for blank in ("", " ", "      "):
            self.fine(ADDER.replace("\n", "\n" + blank + "\n"), ADDER_READ)
            self.fine(blank + "\n" + ADDER, ADDER_READ)

    def test_blanks_around_words(self):
        wide = "   in    a   b  \n  held   c    no   =   a and b or c and   (  a or b ) \n out    sum  =a odd b odd c   \n"
        self.fine(wide, ADDER_READ)
        self.fine(ADDER.replace(" ", "   "), ADDER_READ)
        self.fine(ADDER.replace(" = ", "="), ADDER_READ)
        self.fine(ADDER.replace(" = ", "= "), ADDER_READ)
        self.fine(ADDER.replace(" = ", " ="), ADDER_READ)
        self.fine(ADDER.replace(" = ", "     =       "), ADDER_READ)

    def test_cells_are_known_above_their_rows(self):
        self.fine("in\nheld a no = b\nheld b yes = a\nout c = b",
                  (((), ("a", "b"), ("c",)), (0, ((F, B), (T, A)), (B,))))

    def test_names(self):
        for name in ("z", "abcdefgh", "inn", "ou", "helds", "outs", "yess", "i", "nor"):
            self.fine(f"in {name}\nout b = not {name}", (((name,), (), ("b",)), (1, (), (("not", A),))))
            self.fine(f"in\nheld {name} no = {name}", (((), (name,), ()), (0, ((F, A),), ())))
            self.fine(f"in\nout {name} = no", (((), (), (name,)), (0, (), (NO,))))

    def test_twelve_brackets(self):
        text = "in a\nout b = " + "(" * 12 + "a" + ")" * 12
        self.fine(text, ((("a",), (), ("b",)), (1, (), (A,))))

    def test_two_hundred_thousand_signs(self):
        blanks = "\n" * 60000 + (" " * 99 + "\n") * 1390
        text = blanks + ADDER
        self.fine(text + " " * (200000 - len(text)), ADDER_READ)
        self.at_fault(blanks + ADDER + "\n" * 500 + "x", 61390 + 3 + 500)

    def test_forms_of_many_signs(self):
        form = "a and " * 50 + " " * 15000 + "b"
        self.assertIsNone(fault_row(f"in a b\nout c = {form}"))


class FaultRow(Sheets):
    def test_no_row_has_words(self):
        self.at_fault("", 1)
        self.at_fault("   ", 1)
        self.at_fault("\n", 2)
        self.at_fault("\n \n   \n", 4)
        self.at_fault("\n" * 199999, 200000)

    def test_the_row_in_lacking(self):
        self.stands_not("out a = yes", 0)
        self.stands_not("\n \nheld a yes = a\nout b = a", 2)
        self.stands_not("out a = yes\nin", 0)
        self.stands_not("held a yes = a\nin", 0)

    def test_the_row_in_twice(self):
        self.stands_not("in\nin", 1)
        self.stands_not("in a\n\nin b", 2)
        self.stands_not("in\nheld a no = a\nin b", 2)
        self.stands_not("in\nout a = no\nin", 2)

    def test_out_of_turn(self):
        self.stands_not("in\nout a = no\nheld b no = b", 2)
        self.stands_not("in\nheld c no = c\nout a = no\n\nheld b no = b\nout d = no", 4)

    def test_another_first_word(self):
        for row in ("x", "inn", "In", "IN", "hold a no = yes", "outs a = yes", "in=", "=", "= yes", "=in", "#", "yes",
                    "ina", "in,a", "a = yes", "\t", "\tin", "in\t", "in\ta", ".", "(in)", "held", "out", "=="):
            self.stands_not(row, 0)
            self.stands_not("in\n" + row, 1)
            self.stands_not("in\nout z = yes\n" + row + "\nout y = no", 2)

    def test_tabs_are_no_blanks(self):
        self.at_fault("in\n\t\nout a = yes", 1)
        self.at_fault("in a\tb", 0)
        self.at_fault("in\nheld a\tyes = a", 1)
        self.at_fault("in\nout a =\tyes", 1)
        self.at_fault("in\nout a\t= yes", 1)
        self.at_fault("in\n \t \n", 1)

    def test_names_that_are_none(self):
        for name in NO_NAMES:
            self.stands_not(f"in {name}", 0)
            self.stands_not(f"in a {name} b", 0)
            self.stands_not(f"in\nheld {name} no = yes", 1)
            self.stands_not(f"in\nout {name} = yes", 1)

    def test_names_that_stand_already(self):
        self.stands_not("in a a", 0)
        self.stands_not("in a b a", 0)
        self.stands_not("in a\nheld a no = yes", 1)
        self.stands_not("in a\nout a = yes", 1)
        self.stands_not("in\nheld a no = yes\nheld a no = yes", 2)
        self.stands_not("in\nheld a no = yes\nout a = yes", 2)
        self.stands_not("in\nout a = yes\nout a = yes", 2)
        self.stands_not("in b\nheld c no = yes\nout d = yes\nout b = yes", 3)

    def test_more_than_a_circuit_has(self):
        self.stands_not("in a b c d", 0)
        self.stands_not("in a b c\n" + "".join(f"held {name} no = a\n" for name in "defgh"), 5)
        self.stands_not("in a\n" + "".join(f"out {name} = a\n" for name in "defghij"), 7)
        self.assertIsNone(fault_row("in a b c\n" + "".join(f"held {name} no = a\n" for name in "defg")))
        self.assertIsNone(fault_row("in a\n" + "".join(f"out {name} = a\n" for name in "defghi")))
        self.stands_not(MOST + "out v = a", 11)

    def test_a_word_too_many_or_too_few(self):
        rows = ("held no = yes", "held a = yes", "held = yes", "held a no no = yes", "held a b no = yes", "held = ",
                "out = yes", "out a b = yes", "out a yes = yes", "out a no = yes", "held a no b = yes", "out=yes",
                "held a noyes = yes")
        for row in rows:
            self.stands_not("in\n" + row, 1)
            self.stands_not("in b\nheld c no = c\n\n" + row + "\n", 3)

    def test_the_first_truth(self):
        for truth in ("true", "Yes", "1", "on", "not", "yess", "nO", "a", "yes,"):
            self.stands_not(f"in\nheld a {truth} = yes", 1)
        self.fine("in\nheld a yes = yes", (((), ("a",), ()), (0, ((T, YES),), ())))
        self.fine("in\nheld a no = yes", (((), ("a",), ()), (0, ((F, YES),), ())))

    def test_no_sign_between(self):
        for row in ("held a no yes", "held a no", "out a yes", "out a", "held a no : yes", "out a - yes"):
            self.stands_not("in\n" + row, 1)

    def test_the_sign_behind_in(self):
        for row in ("in =", "in a = b", "in a =", "in a=b", "in = a", "in a b = yes"):
            self.stands_not(row, 0)

    def test_forms_that_can_not_be_read(self):
        for form in ("", "  ", "q", "a b", "a and", "(a", "a)", "A", "a\tand b", "a = b", "= a", "not", "yes yes", "c",
                     "sum", "(" * 13 + "a" + ")" * 13, "a=", "\ta", "in", "1"):
            self.form_at_fault(f"in a b\nout sum = {form}\nout c = a", 1)
            self.form_at_fault(f"in a b\nheld d no = d\nheld e yes = {form}\nout c = a\nout sum = b", 2)

    def test_the_form_is_all_behind_the_first_sign(self):
        self.form_at_fault("in a\nout b = a = a", 1)
        self.form_at_fault("in a\nout b == a", 1)
        self.form_at_fault("in a\nheld b no = no = a", 1)

    def test_answers_names_are_not_known_to_forms(self):
        self.form_at_fault("in a\nout b = a\nout c = b", 2)
        self.form_at_fault("in a\nheld d no = b\nout b = a", 1)

    def test_two_faults_of_which_one_is_of_the_form(self):
        self.at_fault("in a\nout b = q\nout b = a", 2)
        self.at_fault("in a\nheld b no = q\nout c = a\nheld d no = a", 3)
        self.at_fault("in a\nout b = (\nx", 2)
        self.at_fault("in a\nout in = a\nout c = q", 1)
        self.at_fault("in a\nx\nout b = (", 1)

    def test_two_faults_of_one_sort(self):
        self.at_fault("in a\nout b = q\nout c = (", 1)
        self.at_fault("in a\nheld d no = d\nout b = a\nout c = (\nout e = )", 3)
        self.at_fault("in a a\nin", 0)
        self.at_fault("in a\nheld b = a\nout", 1)
        self.at_fault("x\n\ny", 0)

    def test_rows_that_are_passed_over_count(self):
        self.at_fault("\n\n  \nin a\n \nout b = q", 5)
        self.at_fault("\n\n  \nin a\n \nout b q", 5)

    def test_each_row_of_a_sheet_with_one_fault(self):
        rows = MOST.rstrip("\n").split("\n")
        for number in range(len(rows)):
            for other in ("x", "in", rows[number] + "\t", rows[number].replace("=", "").replace("in", "inn")):
                if (number, other) != (0, "in"):
                    text = "\n".join(rows[:number] + [other] + rows[number + 1:])
                    self.at_fault(text, number)


class ShownSheet(unittest.TestCase):
    def test_ordinary(self):
        self.assertEqual(shown_sheet(*ADDER_READ), ADDER)
        self.assertEqual(shown_sheet(*read_sheet(MOST)), MOST)

    def test_nothing_at_all(self):
        self.assertEqual(shown_sheet(((), (), ()), NOTHING), "in\n")
        self.assertEqual(shown_sheet((("a",), (), ()), (1, (), ())), "in a\n")
        self.assertEqual(shown_sheet(((), ("a",), ("b",)), (0, ((T, A),), (("not", A),))),
                         "in\nheld a yes = a\nout b = not a\n")

    def test_single_blanks_and_forms_as_shown(self):
        for names, circuit in sheets(60, 641):
            many, held, outs = circuit
            known = names[0] + names[1]
            wanted = [" ".join(("in",) + names[0])]
            wanted += [f"held {name} {'yes' if first else 'no'} = {shown(form, known)}"
                       for name, (first, form) in zip(names[1], held)]
            wanted += [f"out {name} = {shown(form, known)}" for name, form in zip(names[2], outs)]
            self.assertEqual(shown_sheet(names, circuit), "\n".join(wanted) + "\n")

    def test_read_again(self):
        for names, circuit in sheets(100, 643):
            text = shown_sheet(names, circuit)
            self.assertLessEqual(most_brackets(text), 12)
            self.assertIsNone(fault_row(text))
            self.assertTrue(same_kind(read_sheet(text), (names, circuit)))

    def test_no_name(self):
        for wrong in ("yes", "", "A", "abcdefghi", "a b", "or"):
            names = ((wrong,), ("b", "c"), ("p", "q"))
            refused_with(self, NoName, shown_sheet, names, COUNTER)
            names = (("a",), ("b", wrong), ("p", "q"))
            refused_with(self, NoName, shown_sheet, names, COUNTER)
        refused_with(self, NoName, shown_sheet, (("a",), ("b", "a"), ("p", "q")), COUNTER)
        refused_with(self, NoName, shown_sheet, (("a",), ("b", "b"), ("p", "q")), COUNTER)
        refused_with(self, NoName, shown_sheet, (("a", "a"), (), ("p",)), (2, (), (YES,)))

    def test_no_place(self):
        names = (("a",), ("b", "c"), ("p", "q"))
        self.assertTrue(shown_sheet(names, COUNTER))
        for place in range(4):
            for form in (("at", 3), ("at", -1), ("or", YES, ("at", 9)), ("at", 10 ** 5000)):
                refused_with(self, NoPlace, shown_sheet, names, with_form(COUNTER, place, form))
                refused_with(self, NoName, shown_sheet, (("a",), ("b", "no"), ("p", "q")),
                             with_form(COUNTER, place, form))


class NothingChanges(unittest.TestCase):
    def test_what_is_handed_in_and_what_is_told(self):
        for names, circuit in sheets(10, 647):
            leaves_alone(self, shown_sheet, names, circuit)
            leaves_alone(self, read_sheet, shown_sheet(names, circuit))
            leaves_alone(self, fault_row, shown_sheet(names, circuit))
        leaves_alone(self, fault_row, "in\nx")

    def test_other_sheets_in_between(self):
        for turn in range(2):
            self.assertEqual(read_sheet(ADDER), ADDER_READ)
            self.assertEqual(read_sheet("in c\nout a = c"), ((("c",), (), ("a",)), (1, (), (A,))))
            self.assertEqual(fault_row("in c\nout a = b"), 1)
