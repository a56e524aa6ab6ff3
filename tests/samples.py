"""Forms, rows and names that several tests use, and how they ask for a refusal."""

import copy
import inspect
from itertools import product
from random import Random

JOINING = ("and", "odd", "or")
WORDS = ("yes", "no", "not", "and", "odd", "or")
TWELVE = tuple("abcdefghijkl")


def refused_with(test, kind, ask, *things):
    """The very class, not one beneath or above it."""
    with test.assertRaises(kind) as caught:
        ask(*things)
    test.assertIs(type(caught.exception), kind)


def arguments_are(test, module, wanted):
    """The names and arguments of a module's functions, as the interface tells them."""
    for name, arguments in wanted.items():
        with test.subTest(name=name):
            test.assertEqual(list(inspect.signature(getattr(module, name)).parameters), arguments)


def most_brackets(text):
    now = most = 0
    for sign in text:
        now += {"(": 1, ")": -1}.get(sign, 0)
        most = max(most, now)
    return most


def is_form(thing):
    """Whether a thing is a form as [1.1] tells, whatever its size."""
    if type(thing) is not tuple or len(thing) == 0:
        return False
    if thing[0] == "is":
        return len(thing) == 2 and type(thing[1]) is bool
    if thing[0] == "at":
        return len(thing) == 2 and type(thing[1]) is int and thing[1] >= 0
    length = 2 if thing[0] == "not" else 3 if thing[0] in JOINING else 0
    return len(thing) == length and all(is_form(part) for part in thing[1:])


def hangs_on(truths, many):
    """The places on which a table hangs: two rows that differ there alone have unlike truths."""
    return [
        place for place in range(many)
        if any(truths[number] != truths[number ^ (1 << (many - 1 - place))] for number in range(1 << many))
    ]


def same_kind(thing, other):
    """Equal, and of the same kinds throughout: True is not 1, a list no tuple."""
    if type(thing) is not type(other):
        return False
    if isinstance(thing, (list, tuple)):
        return len(thing) == len(other) and all(same_kind(*pair) for pair in zip(thing, other))
    if isinstance(thing, dict):
        return same_kind(list(thing.items()), list(other.items()))
    return thing == other


def lists_in(thing):
    """All lists and dicts that are in a thing, itself too."""
    found = [thing] if isinstance(thing, (list, dict)) else []
    inner = list(thing.items()) if isinstance(thing, dict) else thing
    if isinstance(inner, (list, tuple)):
        for part in inner:
            found += lists_in(part)
    return found


def spoil(thing):
    """Changes every list and dict in a thing, as its owner may."""
    for one in lists_in(thing):
        if isinstance(one, list):
            one.append("spoilt")
            one[0] = "spoilt"
        else:
            one.clear()


def leaves_alone(test, ask, *things):
    """What is handed in stays as it was and isn't kept; what is told is the asker's own, and told again."""
    handed = copy.deepcopy(things)
    first = ask(*handed)
    test.assertTrue(same_kind(handed, things), "what was handed in was changed")
    kept = copy.deepcopy(first)
    lists = lists_in(first)
    test.assertEqual(len(lists), len({id(one) for one in lists}), "two lists that are told are one")
    test.assertFalse({id(one) for one in lists} & {id(one) for one in lists_in(handed)}, "a list handed in is told")
    second = ask(*handed)
    test.assertTrue(same_kind(second, kept), "asked again, something else is told")
    test.assertFalse({id(one) for one in lists} & {id(one) for one in lists_in(second)}, "a list is told twice")
    spoil(first)
    test.assertTrue(same_kind(second, kept), "what was told changed with what was told earlier")
    test.assertTrue(same_kind(ask(*handed), kept), "what is told changed with what was told earlier")
    spoil(handed)
    test.assertTrue(same_kind(second, kept), "what was told changed with what was handed in")
    test.assertTrue(same_kind(ask(*copy.deepcopy(things)), kept), "what is told changed with what was handed in")


def rows_of(many):
    return list(product((False, True), repeat=many))


def depth(form):
    if form[0] in ("is", "at"):
        return 1
    return 1 + max(depth(part) for part in form[1:])


def tuples(form):
    if form[0] in ("is", "at"):
        return 1
    return 1 + sum(tuples(part) for part in form[1:])


def forms_of(count, leaves):
    """All forms of just so many tuples over some leaves."""
    if count == 1:
        return list(leaves)
    found = [("not", form) for form in forms_of(count - 1, leaves)]
    for left in range(1, count - 1):
        for pair in product(forms_of(left, leaves), forms_of(count - 1 - left, leaves)):
            found.extend((word,) + pair for word in JOINING)
    return found


def chance_form(random, many, deep):
    pick = random.randrange(10) if deep > 1 else 0
    if pick < 2:
        if many == 0 or random.randrange(5) == 0:
            return ("is", random.randrange(2) == 1)
        return ("at", random.randrange(many))
    if pick < 4:
        return ("not", chance_form(random, many, deep - 1))
    word = JOINING[random.randrange(3)]
    return (word, chance_form(random, many, deep - 1), chance_form(random, many, deep - 1))


def chance_forms(seed, count, many, deep):
    """The same forms each time: the seed is told."""
    random = Random(seed)
    return [chance_form(random, many, deep) for number in range(count)]


def deep_left(many, run=1):
    """Sixty tuples deep, leaning left, each word so often in a run; its places are 0 to many - 1."""
    form = ("at", 0)
    for step in range(59):
        form = (JOINING[step // run % 3], form, ("at", step % many))
    return form


def deep_nots():
    form = ("at", 0)
    for step in range(59):
        form = ("not", form)
    return form


def long_form():
    """A thousand tuples: 499 joined by words, 500 places, and one not."""
    parts = [("at", number % 12) for number in range(500)]
    step = 0
    while len(parts) > 1:
        pairs = [(JOINING[step % 3], parts[k], parts[k + 1]) for k in range(0, len(parts) - 1, 2)]
        parts = pairs + parts[2 * len(pairs):]
        step += 1
    return ("not", parts[0])


def chance_row(random, many):
    return tuple(random.randrange(2) == 1 for place in range(many))


def chance_rows(random, many, count):
    return [chance_row(random, many) for number in range(count)]


def circuit_with(random, many, cells, outs, deep=4):
    places = many + cells
    held = tuple((random.randrange(2) == 1, chance_form(random, places, deep)) for cell in range(cells))
    return (many, held, tuple(chance_form(random, places, deep) for out in range(outs)))


def chance_circuit(random):
    return circuit_with(random, random.randrange(4), random.randrange(5), random.randrange(7))


def most_of_each(seed):
    return circuit_with(Random(seed), 3, 4, 6, 5)


def chance_machine(random, many, wide, count):
    """Its answers are few of all that there might be, so that states are often alike for some rows."""
    told = [chance_row(random, wide) for number in range(1 + random.randrange(3))]
    states = [
        [(random.choice(told), random.randrange(count)) for row in range(1 << many)] for state in range(count)
    ]
    return (many, wide, states)


def chance_machines(seed, count, most=8):
    random = Random(seed)
    return [
        chance_machine(random, random.randrange(4), random.randrange(4), random.randrange(1, most + 1))
        for number in range(count)
    ]


def ring(count, wide=1, many=1):
    """Goes one state on at each row but the first, which stays; answers True at the last state alone."""
    states = []
    for number in range(count):
        told = (number == count - 1,) * wide
        states.append([(told, number if row == 0 and many else (number + 1) % count) for row in range(1 << many)])
    return (many, wide, states)


def reached_from_first(machine):
    """The states that can be come to, as they are come to."""
    found = [0]
    for number in found:
        for told, follower in machine[2][number]:
            if follower not in found:
                found.append(follower)
    return found


def moved_about(machine, order):
    """The machine with state order[k] at place k; it begins with what stands at 0 then."""
    many, wide, states = machine
    return (many, wide, [
        [(told, order.index(follower)) for told, follower in states[number]] for number in order
    ])


def doubled(machine):
    """The machine with each state twice; rows of odd numbers lead to the second of both."""
    many, wide, states = machine
    count = len(states)
    twice = []
    for state in states + states:
        twice.append([(told, follower + count * (row % 2)) for row, (told, follower) in enumerate(state)])
    return (many, wide, twice)


def wrong_machines(machine):
    """One thing wrong in each: what NoMachine names, in any state and any pair."""
    many, wide, states = machine
    count = len(states)
    found = [(many, wide, [])]
    for number, state in enumerate(states):
        for other in (state + state[-1:], state[:-1], []):
            found.append((many, wide, states[:number] + [other] + states[number + 1:]))
        for row, (told, follower) in enumerate(state):
            pairs = [(told + (True,), follower), (told, -1), (told, -count), (told, count), (told, count + 5),
                     (told, 10 ** 5000), (told, -(10 ** 5000))]
            if wide:
                pairs.append((told[:-1], follower))
            for pair in pairs:
                other = state[:row] + [pair] + state[row + 1:]
                found.append((many, wide, states[:number] + [other] + states[number + 1:]))
    return found


def chance_names(random, count):
    """Names no two of which are alike, single letters among them."""
    pool = list("abcdefghijklmnopqrstuvwxyz") + ["inn", "heldd", "outs", "yess", "abcdefgh", "zz", "nor", "carry"]
    return tuple(random.sample(pool, count))


def named(random, circuit):
    """Names for a circuit, as a sheet has them: of the truths that come in, the cells, the answers."""
    many, held, outs = circuit
    names = chance_names(random, many + len(held) + len(outs))
    return (names[:many], names[many:many + len(held)], names[many + len(held):])
