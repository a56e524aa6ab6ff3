import unittest
from itertools import product
from random import Random

from circuits import cases as module
from circuits.cases import half_value, shows_alike, told_forms
from circuits.errors import NoPlace
from circuits.forms import value
from tests.samples import (
    JOINING, arguments_are, chance_forms, deep_left, deep_nots, leaves_alone, long_form, refused_with, rows_of,
    same_kind,
)

A, B, C = ("at", 0), ("at", 1), ("at", 2)
YES, NO = ("is", True), ("is", False)
F, T, N = False, True, None

STEPS = {
    "and": {(F, F): F, (F, T): F, (F, N): F, (T, F): F, (T, T): T, (T, N): N, (N, F): F, (N, T): N, (N, N): N},
    "or": {(F, F): F, (F, T): T, (F, N): N, (T, F): T, (T, T): T, (T, N): T, (N, F): N, (N, T): T, (N, N): N},
    "odd": {(F, F): F, (F, T): T, (F, N): N, (T, F): T, (T, T): F, (T, N): N, (N, F): N, (N, T): N, (N, N): N},
}


def wanted_half(form, held):
    """Step by step, as the tables above tell."""
    if form[0] == "is":
        return form[1]
    if form[0] == "at":
        return held[form[1]]
    if form[0] == "not":
        return {F: T, T: F, N: N}[wanted_half(form[1], held)]
    return STEPS[form[0]][wanted_half(form[1], held), wanted_half(form[2], held)]


def held_with(held, place, truth):
    return held[:place] + (truth,) + held[place + 1:]


def written(form, random):
    """A form of other words that is always as true."""
    if form[0] in ("is", "at"):
        here = form
    elif form[0] == "not":
        here = ("not", written(form[1], random))
    else:
        here = (form[0], written(form[1], random), written(form[2], random))
    pick = random.randrange(8)
    if pick == 0:
        return ("not", ("not", here))
    if pick == 1 and form[0] in ("and", "or", "odd"):
        return (here[0], here[2], here[1])
    if pick == 2 and form[0] == "and":
        return ("not", ("or", ("not", here[1]), ("not", here[2])))
    if pick == 3 and form[0] == "odd":
        return ("or", ("and", here[1], ("not", here[2])), ("and", ("not", here[1]), here[2]))
    return here


class Interface(unittest.TestCase):
    def test_names_and_arguments(self):
        arguments_are(self, module, {
            "half_value": ["form", "held"], "told_forms": ["form", "other", "many"],
            "shows_alike": ["tree", "form", "other", "many"],
        })


class HalfValue(unittest.TestCase):
    def test_steps(self):
        for word in JOINING:
            for one, two in product((F, T, N), repeat=2):
                self.assertIs(half_value((word, A, B), (one, two)), STEPS[word][one, two], (word, one, two))
        self.assertIs(half_value(("not", A), (T,)), F)
        self.assertIs(half_value(("not", A), (F,)), T)
        self.assertIs(half_value(("not", A), (N,)), N)
        for truth in (F, T, N):
            self.assertIs(half_value(B, (N, truth)), truth)

    def test_plain_truths_within(self):
        for word in JOINING:
            for one, two in product((F, T), (F, T, N)):
                self.assertIs(half_value((word, ("is", one), A), (two,)), STEPS[word][one, two])
                self.assertIs(half_value((word, A, ("is", one)), (two,)), STEPS[word][two, one])

    def test_where_it_can_not_be_seen_step_by_step(self):
        self.assertIsNone(half_value(("or", A, ("not", A)), (N,)))
        self.assertIsNone(half_value(("and", A, ("not", A)), (N,)))
        self.assertIsNone(half_value(("odd", A, A), (N,)))
        self.assertIsNone(half_value(("or", ("and", A, B), ("and", ("not", A), B)), (N, T)))
        self.assertIs(half_value(("and", ("odd", A, A), NO), (N,)), F)

    def test_nothing_held_and_all_held(self):
        for many in (0, 1, 3, 5):
            for form in chance_forms(241 + many, 60, many, 6):
                self.assertIs(half_value(form, (N,) * many), wanted_half(form, (N,) * many))
                for row in rows_of(many):
                    self.assertIs(half_value(form, row), value(form, row))

    def test_some_held(self):
        for many in (1, 2, 4):
            for form in chance_forms(251 + many, 40, many, 6):
                for held in product((F, T, N), repeat=many):
                    self.assertIs(half_value(form, held), wanted_half(form, held))

    def test_deep_and_long(self):
        random = Random(257)
        for form in (deep_nots(), deep_left(12), deep_left(12, 20), long_form()):
            for turn in range(40):
                held = tuple(random.choice((F, T, N)) for place in range(12))
                self.assertIs(half_value(form, held), wanted_half(form, held))

    def test_no_place(self):
        refused_with(self, NoPlace, half_value, A, ())
        refused_with(self, NoPlace, half_value, ("and", A, C), (F, N))
        refused_with(self, NoPlace, half_value, ("at", -1), (F, N))
        for word in JOINING:
            for truth in (YES, NO):
                refused_with(self, NoPlace, half_value, (word, truth, B), (N,))
                refused_with(self, NoPlace, half_value, (word, B, truth), (T,))
        self.assertIs(half_value(A, (T, N, N)), T)


class Told(unittest.TestCase):
    def shown_alike(self, tree, form, other, held):
        """Whether a tree shows it, by 5.2, with no place held in vain, by 5.3."""
        truths = (wanted_half(form, held), wanted_half(other, held))
        if type(tree) is bool:
            self.assertEqual(truths, (tree, tree))
            return
        self.assertIs(type(tree), tuple)
        place, low, high = tree
        self.assertIs(type(place), int)
        self.assertIsNone(held[place])
        self.assertNotIn(truths, ((F, F), (T, T)))
        self.shown_alike(low, form, other, held_with(held, place, F))
        self.shown_alike(high, form, other, held_with(held, place, T))

    def check(self, form, other, many):
        unlike = [row for row in rows_of(many) if value(form, row) is not value(other, row)]
        told = told_forms(form, other, many)
        self.assertIs(type(told), tuple)
        if unlike:
            self.assertTrue(same_kind(told, ("unlike", unlike[0])), (form, other, told))
            return
        word, tree = told
        self.assertEqual(word, "alike")
        self.shown_alike(tree, form, other, (N,) * many)
        self.assertIs(shows_alike(tree, form, other, many), True)
        self.assertIs(shows_alike(tree, other, form, many), True)

    def test_plain_ones(self):
        self.assertTrue(same_kind(told_forms(YES, ("not", NO), 0), ("alike", T)))
        self.assertTrue(same_kind(told_forms(NO, ("and", YES, NO), 3), ("alike", F)))
        self.assertTrue(same_kind(told_forms(YES, NO, 0), ("unlike", ())))
        self.assertTrue(same_kind(told_forms(YES, NO, 3), ("unlike", (F, F, F))))
        self.assertTrue(same_kind(told_forms(A, ("not", ("not", A)), 1), ("alike", (0, F, T))))
        self.assertTrue(same_kind(told_forms(A, ("or", A, B), 2), ("unlike", (F, T))))
        self.assertTrue(same_kind(told_forms(("and", A, B), A, 3), ("unlike", (T, F, F))))

    def test_no_place_is_held_in_vain(self):
        self.assertTrue(same_kind(told_forms(("or", A, YES), ("or", YES, B), 2), ("alike", T)))
        self.assertEqual(told_forms(("and", A, B), ("and", B, A), 2)[0], "alike")

    def test_forms_of_other_words(self):
        random = Random(263)
        for many in (1, 2, 3, 5):
            for form in chance_forms(269 + many, 40, many, 5):
                self.check(form, written(form, random), many)
                self.check(form, form, many)

    def test_drawn_forms(self):
        for many in (0, 1, 2, 4, 6):
            forms = chance_forms(271 + many, 80, many, 5)
            for form, other in zip(forms[::2], forms[1::2]):
                self.check(form, other, many)

    def test_each_row_may_part_them(self):
        random = Random(277)
        for many in (1, 3, 4):
            for number, row in enumerate(rows_of(many)):
                at_row = YES
                for place in range(many):
                    at_row = ("and", at_row, ("at", place) if row[place] else ("not", ("at", place)))
                form = chance_forms(281 + number, 1, many, 5)[0]
                self.check(form, ("odd", written(form, random), at_row), many)
                later = ("or", at_row, ("and", ("at", 0), ("at", many - 1)))
                self.check(NO, later, many)

    def test_more_places_than_the_forms_have(self):
        self.check(("and", A, B), ("not", ("or", ("not", A), ("not", B))), 6)
        self.check(A, ("at", 4), 6)
        self.assertEqual(told_forms(A, ("at", 4), 6), ("unlike", (F, F, F, F, T, F)))

    def test_twelve_places(self):
        random = Random(283)
        for form in chance_forms(293, 2, 12, 7):
            self.check(form, written(form, random), 12)
        odds = ("at", 11)
        for place in range(11):
            odds = ("odd", odds, ("at", place))
        self.check(odds, written(odds, random), 12)
        last = ("and", odds, ("not", ("and", ("at", 11), ("at", 10))))
        self.check(odds, last, 12)
        self.check(deep_left(12, 5), long_form(), 12)

    def test_no_place(self):
        for many in range(5):
            beyond = ("or", YES, ("at", many))
            refused_with(self, NoPlace, told_forms, beyond, YES, many)
            refused_with(self, NoPlace, told_forms, YES, beyond, many)
            refused_with(self, NoPlace, told_forms, YES, ("at", -1), many)
            for tree in (True, None, "", (0, True, True)):
                refused_with(self, NoPlace, shows_alike, tree, beyond, YES, many)
                refused_with(self, NoPlace, shows_alike, tree, YES, beyond, many)
                refused_with(self, NoPlace, shows_alike, tree, ("at", -1), YES, many)
        refused_with(self, NoPlace, told_forms, ("at", 12), YES, 12)


def ways_in(tree, way=()):
    found = [way]
    if type(tree) is tuple:
        found += ways_in(tree[1], way + (1,)) + ways_in(tree[2], way + (2,))
    return found


def part_at(tree, way):
    for end in way:
        tree = tree[end]
    return tree


def exchanged(tree, way, part):
    if not way:
        return part
    inner = exchanged(tree[way[0]], way[1:], part)
    return tree[:way[0]] + (inner,) + tree[way[0] + 1:]


class ShowsAlike(unittest.TestCase):
    FORM = ("odd", A, ("and", B, C))
    OTHER = ("odd", ("and", C, B), A)
    TREE = (0, (1, F, (2, F, T)), (2, T, (1, T, F)))

    def test_trees_that_show_it(self):
        self.assertIs(shows_alike(self.TREE, self.FORM, self.OTHER, 3), True)
        self.assertIs(shows_alike((1, (0, F, T), (2, (0, F, T), (0, T, F))), self.FORM, self.OTHER, 3), True)
        self.assertIs(shows_alike(T, YES, ("or", YES, A), 1), True)
        self.assertIs(shows_alike(F, NO, ("and", B, NO), 2), True)

    def test_places_may_be_held_that_need_not(self):
        self.assertIs(shows_alike((0, T, T), YES, ("or", YES, A), 1), True)
        self.assertIs(shows_alike((1, (0, F, T), (0, F, T)), A, A, 2), True)
        self.assertIs(shows_alike((11, (0, F, T), (0, F, T)), A, A, 12), True)

    def test_truths_that_are_not_seen(self):
        self.assertIs(shows_alike(T, A, A, 1), False)
        self.assertIs(shows_alike(F, A, A, 1), False)
        self.assertIs(shows_alike(T, YES, ("or", A, ("not", A)), 1), False)
        self.assertIs(shows_alike((0, T, T), YES, ("or", A, ("not", A)), 1), True)
        self.assertIs(shows_alike(F, YES, YES, 0), False)
        self.assertIs(shows_alike(T, YES, NO, 0), False)
        self.assertIs(shows_alike(F, YES, NO, 0), False)

    def test_one_change(self):
        for way in ways_in(self.TREE):
            part = part_at(self.TREE, way)
            changed = [None, 0, 1, "", "yes", [], (), {}, (part,), [part], 1.0, 0.0, (T, F), (0, T), (None, T, F)]
            if type(part) is bool:
                changed += [not part, int(part), str(part), (0, part), (7, part, part)]
                changed += [(place, part, part) for place in (-1, -2, -3, 3, 4, 10 ** 5000)]
            else:
                place, low, high = part
                changed += [list(part), part + (T,), part[:2], (place, high, low), (low, place, high)]
                changed += [(place, low, low), (place, high, high), T, F]
                changed += [(other, low, high) for other in (-1, -3, place - 3, 3, 12, None, "0", (place,), 10 ** 5000)]
                if place < 2:
                    changed += [(place == 1, low, high), (float(place), low, high)]
            for other in changed:
                tree = exchanged(self.TREE, way, other)
                self.assertIs(shows_alike(tree, self.FORM, self.OTHER, 3), False, (way, other))

    def test_a_place_held_twice(self):
        self.assertIs(shows_alike((0, F, (0, T, T)), A, A, 1), False)
        self.assertIs(shows_alike((0, (0, F, F), T), A, A, 1), False)
        self.assertIs(shows_alike((0, F, (1, (0, T, T), T)), A, A, 2), False)
        self.assertIs(shows_alike((0, F, (1, T, T)), A, A, 2), True)

    def test_places_from_many_on_or_below_nought(self):
        for place in (2, 3, -1, -2, 10 ** 5000, -(10 ** 5000)):
            self.assertIs(shows_alike((place, T, T), YES, YES, 2), False)
            self.assertIs(shows_alike((0, T, (place, T, T)), YES, YES, 2), False)
        self.assertIs(shows_alike((0, T, T), YES, YES, 0), False)
        self.assertIs(shows_alike((1, T, T), YES, YES, 2), True)

    def test_a_place_of_one_branch_may_be_held_in_the_other(self):
        self.assertIs(shows_alike((0, (1, F, F), (1, F, T)), ("and", A, B), ("and", B, A), 2), True)

    def test_things_that_are_no_trees(self):
        things = (None, 0, 1, 2, -1, "", "True", [], [0, T, T], (), (0,), (0, T), (0, T, T, T), {}, {0: T}, 1.0, 3.5,
                  b"", (T, T, T), (F, T, T), ("0", T, T), (None, T, T), (0, 1, 1), (0, None, None), (0, [T], T),
                  ((0, T, T), T, T), (0, T, (0,)), object(), {1, 2}, (0.0, T, T))
        for thing in things:
            self.assertIs(shows_alike(thing, YES, YES, 3), False, thing)

    def test_very_deep_things(self):
        deep = True
        for turn in range(100000):
            deep = (0, deep, deep)
        self.assertIs(shows_alike(deep, YES, YES, 3), False)
        deep = True
        for turn in range(100000):
            deep = (deep,)
        self.assertIs(shows_alike(deep, YES, YES, 3), False)

    def test_trees_of_drawn_forms_for_others(self):
        forms = chance_forms(307, 40, 3, 4)
        shown = 0
        for form, other in product(forms[::2], forms[1::2]):
            same = all(value(form, row) is value(other, row) for row in rows_of(3))
            tree = told_forms(form, form, 3)[1]
            self.assertIn(shows_alike(tree, form, other, 3), (True, False) if same else (False,))
            shown += shows_alike(tree, form, other, 3)
        self.assertGreater(shown, 0)


class NothingChanges(unittest.TestCase):
    def test_what_is_handed_in_and_what_is_told(self):
        forms = chance_forms(311, 20, 3, 4)
        for form, other in zip(forms[::2], forms[1::2]):
            leaves_alone(self, half_value, form, (T, N, F))
            leaves_alone(self, told_forms, form, other, 3)
            leaves_alone(self, told_forms, form, ("not", ("not", form)), 3)
            leaves_alone(self, shows_alike, told_forms(form, form, 3)[1], form, form, 3)
        leaves_alone(self, shows_alike, [0, [T], T], YES, YES, 2)
