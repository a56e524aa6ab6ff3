"""Forms, rows and names that several tests use, and how they ask for a refusal."""

from itertools import product
from random import Random

JOINING = ("and", "odd", "or")
WORDS = ("yes", "no", "not", "and", "odd", "or")
TWELVE = tuple("abcdefghijkl")


def refused_with(test, kind, ask, *things):
    """The very class, not one beneath or above it."""
    with test.assertRaises(kind) as caught:
        ask(*things)
    test.assertIs(type(caught.exception), kind)


def rows_of(many):
    return list(product((False, True), repeat=many))


def depth(form):
    if form[0] in ("is", "at"):
        return 1
    return 1 + max(depth(part) for part in form[1:])


def tuples(form):
    if form[0] in ("is", "at"):
        return 1
    return 1 + sum(tuples(part) for part in form[1:])


def forms_of(count, leaves):
    """All forms of just so many tuples over some leaves."""
    if count == 1:
        return list(leaves)
    found = [("not", form) for form in forms_of(count - 1, leaves)]
    for left in range(1, count - 1):
        for pair in product(forms_of(left, leaves), forms_of(count - 1 - left, leaves)):
            found.extend((word,) + pair for word in JOINING)
    return found


def chance_form(random, many, deep):
    pick = random.randrange(10) if deep > 1 else 0
    if pick < 2:
        if many == 0 or random.randrange(5) == 0:
            return ("is", random.randrange(2) == 1)
        return ("at", random.randrange(many))
    if pick < 4:
        return ("not", chance_form(random, many, deep - 1))
    word = JOINING[random.randrange(3)]
    return (word, chance_form(random, many, deep - 1), chance_form(random, many, deep - 1))


def chance_forms(seed, count, many, deep):
    """The same forms each time: the seed is told."""
    random = Random(seed)
    return [chance_form(random, many, deep) for number in range(count)]


def deep_left(many, run=1):
    """Sixty tuples deep, leaning left, each word so often in a run; its places are 0 to many - 1."""
    form = ("at", 0)
    for step in range(59):
        form = (JOINING[step // run % 3], form, ("at", step % many))
    return form


def deep_nots():
    form = ("at", 0)
    for step in range(59):
        form = ("not", form)
    return form


def long_form():
    """A thousand tuples: 499 joined by words, 500 places, and one not."""
    parts = [("at", number % 12) for number in range(500)]
    step = 0
    while len(parts) > 1:
        pairs = [(JOINING[step % 3], parts[k], parts[k + 1]) for k in range(0, len(parts) - 1, 2)]
        parts = pairs + parts[2 * len(pairs):]
        step += 1
    return ("not", parts[0])
