"""Two machines told alike, with the pairs of states that show it, or unlike, with rows."""

from circuits.errors import UnlikeSizes
from circuits.machines import is_state
from circuits.woven import check_both


def told_machines(machine, other):
    check_like(machine, other)
    came = {(0, 0): None}
    pairs = [(0, 0)]
    place = 0
    # Pairs stand as they are come to: those of short lists of rows ahead, and
    # of lists of one length the first by their numbers.
    while place < len(pairs):
        here = pairs[place]
        number = 0
        for told, wanted in zip(machine[2][here[0]], other[2][here[1]]):
            if told[0] != wanted[0]:
                return ("unlike", rows_to(came, here) + [number])
            follower = (told[1], wanted[1])
            if follower not in came:
                came[follower] = (here, number)
                pairs.append(follower)
            number = number + 1
        place = place + 1
    return ("alike", pairs)


def check_like(machine, other):
    check_both(machine, other)
    if machine[1] != other[1]:
        raise UnlikeSizes("one machine answers more truths than the other")


def rows_to(came, pair):
    numbers = []
    step = came[pair]
    while step is not None:
        numbers.append(step[1])
        step = came[step[0]]
    return list(reversed(numbers))


def closed(machine, other, pairs):
    check_like(machine, other)
    known = {}
    for pair in pairs:
        if not is_state(machine, pair[0]) or not is_state(other, pair[1]):
            return False
        known[pair] = True
    if (0, 0) not in known:
        return False
    return all([stays_within(machine[2][left], other[2][right], known) for left, right in known])


def stays_within(state, other, known):
    for pair, wanted in zip(state, other):
        if pair[0] != wanted[0] or (pair[1], wanted[1]) not in known:
            return False
    return True
