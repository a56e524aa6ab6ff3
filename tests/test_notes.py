import copy
import inspect
import unittest
from itertools import product

from circuits import notes as module
from circuits.errors import BadText, NoName, NoPlace
from circuits.forms import places_in
from circuits.notes import fault, read, shown
from tests.samples import (
    JOINING, TWELVE, WORDS, chance_forms, deep_left, deep_nots, forms_of, long_form, most_brackets, refused_with,
    tuples,
)

A, B, C = ("at", 0), ("at", 1), ("at", 2)
YES, NO = ("is", True), ("is", False)
ABC = ("a", "b", "c")
BAD_NAMES = (
    ("",), ("abcdefghi",), ("A",), ("aB",), ("a1",), ("1",), ("a b",), (" a",), ("a ",), ("_",), ("a_b",), ("(",),
    ("`",), ("{",), ("a\n",), ("\t",), ("a", "b", "a"), ("x", "x"), ("a", "b", ""),
) + tuple((word,) for word in WORDS) + tuple(("a", word) for word in WORDS)


def bracket_pairs(text):
    opened, pairs = [], []
    for place, sign in enumerate(text):
        if sign == "(":
            opened.append(place)
        elif sign == ")":
            pairs.append((opened.pop(), place))
    return pairs


class Interface(unittest.TestCase):
    def test_names_and_arguments(self):
        wanted = {"shown": ["form", "names"], "read": ["text", "names"], "fault": ["text", "names"]}
        for name, arguments in wanted.items():
            self.assertEqual(list(inspect.signature(getattr(module, name)).parameters), arguments)


class Names(unittest.TestCase):
    def test_one_to_eight_small_letters(self):
        for name in ("a", "z", "abcdefgh", "zzzzzzzz"):
            self.assertEqual(shown(A, (name,)), name)
            self.assertEqual(read(name, (name,)), A)
            self.assertIsNone(fault(name, (name,)))

    def test_the_six_words_may_begin_a_name(self):
        names = ("yess", "noo", "nota", "andy", "oddly", "orb", "i", "in", "held", "out", "nor", "o", "n")
        for place, name in enumerate(names):
            self.assertEqual(shown(("at", place), names), name)
            self.assertEqual(read(name, names), ("at", place))

    def test_one_may_be_the_beginning_of_another(self):
        names = ("ab", "a", "abc", "b", "c")
        self.assertEqual(read("abc and ab or a", names), ("or", ("and", C, A), B))
        self.assertEqual(fault("abcd", names), 0)
        self.assertEqual(fault("ba", names), 0)

    def test_no_name_is_refused_by_all(self):
        for names in BAD_NAMES:
            with self.subTest(names=names):
                refused_with(self, NoName, shown, YES, names)
                refused_with(self, NoName, read, "yes", names)
                refused_with(self, NoName, fault, "yes", names)

    def test_no_name_ahead_of_all_else(self):
        for names in BAD_NAMES:
            with self.subTest(names=names):
                refused_with(self, NoName, shown, ("at", 9), names)
                for text in ("", "(", "yes yes", "$", "q"):
                    refused_with(self, NoName, read, text, names)
                    refused_with(self, NoName, fault, text, names)

    def test_no_names_at_all(self):
        self.assertEqual(shown(("or", YES, NO), ()), "yes or no")
        self.assertEqual(read("yes or no", ()), ("or", YES, NO))
        self.assertEqual(fault("a", ()), 0)

    def test_more_names_than_twelve(self):
        names = tuple("abcdefghijklmnopqrstuvwxyz")
        form = ("and", ("at", 25), ("at", 12))
        self.assertEqual(shown(form, names), "z and m")
        self.assertEqual(read("z and m", names), form)


class Shown(unittest.TestCase):
    def test_plain_ones(self):
        self.assertEqual(shown(YES, ABC), "yes")
        self.assertEqual(shown(NO, ABC), "no")
        self.assertEqual(shown(C, ("left", "right", "carry")), "carry")
        self.assertEqual(shown(("not", B), ABC), "not b")
        for word in JOINING:
            self.assertEqual(shown((word, A, B), ABC), f"a {word} b")

    def test_within_a_not(self):
        self.assertEqual(shown(("not", ("not", A)), ABC), "not not a")
        self.assertEqual(shown(("not", YES), ABC), "not yes")
        for word in JOINING:
            self.assertEqual(shown(("not", (word, A, B)), ABC), f"not (a {word} b)")
            self.assertEqual(shown((word, ("not", A), ("not", B)), ABC), f"not a {word} not b")

    def test_each_word_within_each(self):
        # not holds tightest, then and, then odd, then or.
        for outer, word in enumerate(JOINING):
            for inner, other in enumerate(JOINING):
                left = shown((word, (other, A, B), C), ABC)
                right = shown((word, A, (other, B, C)), ABC)
                self.assertEqual(left, f"(a {other} b) {word} c" if inner > outer else f"a {other} b {word} c")
                self.assertEqual(right, f"a {word} (b {other} c)" if inner >= outer else f"a {word} b {other} c")

    def test_brackets_stand_just_where_needed(self):
        taken = 0
        for form in chance_forms(23, 80, 3, 6) + forms_of(5, (A, B)):
            text = shown(form, ABC)
            for start, end in bracket_pairs(text):
                bare = text[:start] + text[start + 1:end] + text[end + 1:]
                self.assertNotEqual(read(bare, ABC), form, text)
                taken += 1
        self.assertGreater(taken, 100)

    def test_blanks(self):
        for form in chance_forms(29, 60, 3, 6):
            text = shown(form, ABC)
            self.assertEqual(text, " ".join(text.split()))
            self.assertNotIn("( ", text)
            self.assertNotIn(" )", text)

    def test_no_place(self):
        refused_with(self, NoPlace, shown, A, ())
        refused_with(self, NoPlace, shown, ("or", YES, ("not", ("at", 3))), ABC)
        refused_with(self, NoPlace, shown, ("at", -1), ABC)
        for place in (10 ** 30, 10 ** 5000, -(10 ** 5000)):
            refused_with(self, NoPlace, shown, ("not", ("at", place)), ABC)

    def test_deep_and_long(self):
        self.assertEqual(shown(deep_nots(), ABC), "not " * 59 + "a")
        self.assertEqual(read(shown(deep_left(12, 20), TWELVE), TWELVE), deep_left(12, 20))
        self.assertEqual(most_brackets(shown(deep_left(12, 5), TWELVE)), 3)
        self.assertEqual(read(shown(deep_left(12, 5), TWELVE), TWELVE), deep_left(12, 5))
        self.assertEqual(tuples(long_form()), 1000)
        self.assertEqual(read(shown(long_form(), TWELVE), TWELVE), long_form())

    def test_sixty_deep_to_the_right(self):
        form, text = A, "a"
        for step in range(59):
            text = f"b and ({text})" if step else "b and a"
            form = ("and", B, form)
        self.assertEqual(shown(form, ABC), text)


class Read(unittest.TestCase):
    def test_from_the_left(self):
        for word in JOINING:
            self.assertEqual(read(f"a {word} b {word} c", ABC), (word, (word, A, B), C))

    def test_tightness(self):
        self.assertEqual(read("a or b odd c and not a", ABC), ("or", A, ("odd", B, ("and", C, ("not", A)))))
        self.assertEqual(read("not a and b odd c or a", ABC), ("or", ("odd", ("and", ("not", A), B), C), A))
        self.assertEqual(read("a or b and c or a", ABC), ("or", ("or", A, ("and", B, C)), A))
        self.assertEqual(read("not not a", ABC), ("not", ("not", A)))

    def test_brackets(self):
        self.assertEqual(read("a and (b or c)", ABC), ("and", A, ("or", B, C)))
        self.assertEqual(read("not (a and b) and c", ABC), ("and", ("not", ("and", A, B)), C))
        self.assertEqual(read("a odd (b odd c)", ABC), ("odd", A, ("odd", B, C)))

    def test_brackets_that_are_not_needed(self):
        self.assertEqual(read("((a))", ABC), A)
        self.assertEqual(read("(a and (b))", ABC), ("and", A, B))
        self.assertEqual(read("(not (not (yes)))", ABC), ("not", ("not", YES)))

    def test_blanks(self):
        self.assertEqual(read("  a   and(b)or not( c )  ", ABC), ("or", ("and", A, B), ("not", C)))
        self.assertEqual(read("(a)and(b)", ABC), ("and", A, B))
        self.assertEqual(read("not(not(a))", ABC), ("not", ("not", A)))

    def test_twelve_brackets(self):
        self.assertEqual(read("(" * 12 + "a" + ")" * 12, ABC), A)
        many = " and ".join(["(" * 12 + "a" + ")" * 12] * 20)
        self.assertIsNone(fault(many, ABC))
        self.assertEqual(tuples(read(many, ABC)), 39)

    def test_bad_texts(self):
        texts = (
            "", " ", "q", "a b", "a not b", "not", "and a", "a and", "a or or b", "()", "(a", "a)", ")a(", "a (b)",
            "(a) b", "aa", "nota", "a\tand b", "a\n", "A", "a & b", "1", "yes no", "Yes", "a, b", "a and (b or )",
            "(" * 13 + "a" + ")" * 13,
        )
        for text in texts:
            with self.subTest(text=text):
                refused_with(self, BadText, read, text, ABC)
                self.assertIsNotNone(fault(text, ABC))

    def test_twenty_thousand_signs(self):
        text = " " * 9000 + "a and" + " " * 10990 + "not b"
        self.assertEqual(len(text), 20000)
        self.assertEqual(read(text, ABC), ("and", A, ("not", B)))
        self.assertIsNone(fault(text, ABC))
        names = tuple(letter * 8 for letter in TWELVE)
        form = long_form()
        spread = shown(form, names).replace(" ", "  ")
        self.assertEqual(read(spread + " " * (20000 - len(spread)), names), form)


class RoundTrip(unittest.TestCase):
    def test_all_small_forms(self):
        for count in range(1, 6):
            for form in forms_of(count, (A, B, NO)):
                self.assertEqual(read(shown(form, ABC), ABC), form)

    def test_others(self):
        names = ("ab", "a", "abc", "yesno", "nott", "longest", "eight", "zzzzzzzz", "i", "j", "k", "l")
        for form in chance_forms(31, 200, 12, 8):
            text = shown(form, names)
            if most_brackets(text) <= 12:
                self.assertEqual(read(text, names), form)
                self.assertIsNone(fault(text, names))

    def test_just_twelve_brackets_at_once(self):
        form = ("or", A, B)
        for step in range(12):
            form = ("and", B, form) if step % 2 == 0 else ("not", form)
        while most_brackets(shown(form, ABC)) < 12:
            form = ("not", ("or", form, C))
        self.assertEqual(most_brackets(shown(form, ABC)), 12)
        self.assertEqual(read(shown(form, ABC), ABC), form)
        beyond = ("not", ("or", form, C))
        self.assertEqual(most_brackets(shown(beyond, ABC)), 13)
        refused_with(self, BadText, read, shown(beyond, ABC), ABC)


class Fault(unittest.TestCase):
    def test_none_for_what_can_be_read(self):
        for text in ("a", " yes ", "not(a)", "(a and b)or c", "a odd a"):
            self.assertIsNone(fault(text, ABC))

    def test_words_and_signs_that_cannot_stand(self):
        wanted = (
            ("q", 0), ("  q", 2), ("a b", 2), ("a yes", 2), ("a not b", 2), ("a  abc", 3), ("and a", 0),
            ("a and or b", 6), ("not and", 4), ("()", 1), ("a)", 1), (")", 0), ("(a))", 3), ("a (b)", 2),
            ("(a)(b)", 3), ("not )", 4), ("aa", 0), ("notb", 0), ("a andb", 2), ("a1", 1), ("1a", 0), ("aB", 1),
            ("a and B", 6), ("a\tand b", 1), ("a\n", 1), ("\ta", 0), ("a.", 1), ("a and (b or) c", 11),
            ("~", 0), ("a=b", 1), ("a and -b", 6), ("a {", 2), ("a `", 2), ("abcdefghij", 0), ("a and yess", 6),
        )
        for text, place in wanted:
            with self.subTest(text=text):
                self.assertEqual(fault(text, ABC), place)

    def test_the_first_of_several(self):
        self.assertEqual(fault("a q ) and", ABC), 2)
        self.assertEqual(fault("(a and ) $", ABC), 7)

    def test_what_lacks_at_the_end(self):
        for text in ("", " ", "   ", "not", "a and", "a and  ", "(", "(a", "((a)", "(a ", "a or not", "not ("):
            with self.subTest(text=text):
                self.assertEqual(fault(text, ABC), len(text))

    def test_the_thirteenth_bracket(self):
        self.assertEqual(fault("(" * 13, ABC), 12)
        self.assertEqual(fault("(" * 12, ABC), 12)
        self.assertEqual(fault("(" * 14 + "a" + ")" * 14, ABC), 12)
        self.assertEqual(fault(" ( " * 13 + "a", ABC), 37)
        self.assertEqual(fault("(a) and " + "(" * 12 + "a and (", ABC), 8 + 12 + 6)
        self.assertIsNone(fault("(" * 12 + "a) and (b" + ")" * 12, ABC))

    def test_twenty_thousand_signs(self):
        self.assertEqual(fault(" " * 20000, ABC), 20000)
        self.assertEqual(fault("not " * 5000, ABC), 20000)
        self.assertEqual(fault("not " * 4999 + ")   ", ABC), 19996)
        self.assertEqual(fault("a or " * 4000, ABC), 20000)
        self.assertEqual(fault("a or " * 3999 + "a a  ", ABC), 19997)
        self.assertEqual(fault("a" * 20000, ABC), 0)
        for text in (" " * 20000, "not " * 5000, "a or " * 4000, "a" * 20000, "(" * 20000):
            refused_with(self, BadText, read, text, ABC)

    def test_every_sign_at_every_place(self):
        signs = [chr(code) for code in range(32, 127) if chr(code) != "%"] + ["\n", "\t"]
        for sign in signs:
            begins = sign in (" ", "(", "a", "b", "c")
            self.assertEqual(fault(sign + " a", ABC) == 0, not begins, sign)
            follows = sign in (" ", ")")
            self.assertEqual(fault("(a " + sign, ABC) == 3, not follows, sign)

    def test_against_all_texts_of_the_words(self):
        # A word stands rightly where some text that can be read begins so.
        whole = {(): False}
        for sentence in sentences(9):
            for end in range(len(sentence) + 1):
                whole.setdefault(sentence[:end], False)
            whole[sentence] = True
        for count in range(5):
            for pieces in product(("a", "not", "and", "(", ")"), repeat=count):
                self.assertEqual(fault(" ".join(pieces), ABC), wanted_fault(pieces, whole), pieces)


def sentences(most):
    """All rows of at most so many words that the words' rules allow."""
    found = {1: {("a",)}}
    for count in range(2, most + 1):
        new = {("not",) + one for one in found[count - 1]}
        if count > 2:
            new |= {("(",) + one + (")",) for one in found[count - 2]}
        for left in range(1, count - 1):
            new |= {one + ("and",) + two for one in found[left] for two in found[count - 1 - left]}
        found[count] = new
    return set().union(*found.values())


def wanted_fault(pieces, whole):
    for end in range(1, len(pieces) + 1):
        if pieces[:end] not in whole:
            return len(" ".join(pieces[:end])) - len(pieces[end - 1])
    return None if whole[pieces] else len(" ".join(pieces))


class NothingChanges(unittest.TestCase):
    def test_asked_again_the_same_is_told(self):
        for form in chance_forms(37, 30, 3, 5):
            before = copy.deepcopy(form)
            text = shown(form, ABC)
            self.assertEqual(shown(copy.deepcopy(form), ("a", "b", "c")), text)
            self.assertEqual(read(text, ABC), read(text, ABC))
            self.assertEqual(fault(text + ")", ABC), fault(text + ")", ABC))
            self.assertEqual(form, before)

    def test_other_names_in_between(self):
        self.assertEqual(read("a and b", ("a", "b")), ("and", A, B))
        self.assertEqual(read("a and b", ("b", "a")), ("and", B, A))
        self.assertEqual(fault("a and b", ("b",)), 0)
        self.assertEqual(read("a and b", ("a", "b")), ("and", A, B))

    def test_what_is_read_is_tuples(self):
        form = read("not (a or no) and b", ABC)
        self.assertEqual(form, ("and", ("not", ("or", A, NO)), B))
        self.assertIs(form[1][1][2][1], False)
        self.assertEqual(places_in(form), [0, 1])
        self.assertIs(type(form), tuple)
