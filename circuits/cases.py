"""Forms told alike, with a tree of cases that shows it, or unlike, with a row."""

from circuits.easing import eased, eased_not
from circuits.forms import places_in, thing_at
from circuits.things import is_tuple_of, is_whole, same_truth


def half_value(form, held):
    return known_truth(rest_of(form, held))


def rest_of(form, held):
    # What is left of a form when the truths that are held are put in, step by
    # step: a plain truth just where the form has one as its half value.
    word = form[0]
    if word == "is":
        return form
    if word == "at":
        truth = thing_at(held, form[1])
        return form if truth is None else ("is", truth)
    if word == "not":
        return eased_not(rest_of(form[1], held))
    return eased(word, rest_of(form[1], held), rest_of(form[2], held))


def known_truth(rest):
    return rest[1] if rest[0] == "is" else None


def holding(held, place, truth):
    return held[:place] + (truth,) + held[place + 1:]


def told_forms(form, other, many):
    held = (None,) * many
    return told_held(rest_of(form, held), rest_of(other, held), held)


def told_held(form, other, held):
    truth = known_truth(form)
    if truth is not None and known_truth(other) is not None:
        if truth == known_truth(other):
            return ("alike", truth)
        return ("unlike", tuple([known is True for known in held]))
    # The least place first, and False first: so the first row that is found
    # to part them has the least number.
    place = min(places_in(form) + places_in(other))
    trees = []
    for case in (False, True):
        now = holding(held, place, case)
        told = told_held(rest_of(form, now), rest_of(other, now), now)
        if told[0] == "unlike":
            return told
        trees.append(told[1])
    return ("alike", (place, trees[0], trees[1]))


def shows_alike(tree, form, other, many):
    held = (None,) * many
    return shows_held(tree, rest_of(form, held), rest_of(other, held), held)


def shows_held(tree, form, other, held):
    if isinstance(tree, bool):
        return same_truth(known_truth(form), tree) and same_truth(known_truth(other), tree)
    if not is_tuple_of(tree, 3) or not can_hold(tree[0], held):
        return False
    for case, branch in ((False, tree[1]), (True, tree[2])):
        now = holding(held, tree[0], case)
        if not shows_held(branch, rest_of(form, now), rest_of(other, now), now):
            return False
    return True


def can_hold(place, held):
    if not is_whole(place) or place < 0 or place >= len(held):
        return False
    return held[place] is None
