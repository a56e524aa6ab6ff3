"""Graphs made of graphs, and what is reckoned from them."""

from circuits.easing import eased
from circuits.errors import NoPlace
from circuits.rows import rows_many


def least_graph(begin, ask):
    # What ask tells of a thing is a truth, or a place and the two things to
    # which one goes on. Low is gone into first, then high, and only then is
    # the node kept: so the nodes come to stand in their order by themselves.
    nodes = []
    first = number_for(begin, ask, nodes, {}, {})
    return (nodes, first)


def number_for(thing, ask, nodes, numbers, seen):
    if thing not in seen:
        told = ask(thing)
        if told is True or told is False:
            seen[thing] = 1 if told else 0
        else:
            low = number_for(told[1], ask, nodes, numbers, seen)
            high = number_for(told[2], ask, nodes, numbers, seen)
            seen[thing] = node_number((told[0], low, high), nodes, numbers)
    return seen[thing]


def node_number(node, nodes, numbers):
    if node[1] == node[2]:
        return node[1]
    if node not in numbers:
        nodes.append(node)
        numbers[node] = len(nodes) + 1
    return numbers[node]


def node_at(graph, number):
    return graph[0][number - 2]


def is_end(number):
    return number < 2


def check_graph(graph, many):
    if any([node[0] >= many for node in graph[0]]):
        raise NoPlace("the graph has a place that isn't there")


# Turned, joined and halved.


def turned(graph):
    nodes = [(node[0], other_end(node[1]), other_end(node[2])) for node in graph[0]]
    return (nodes, other_end(graph[1]))


def other_end(number):
    return 1 - number if is_end(number) else number


def joined(word, graph, other):
    return least_graph((graph[1], other[1]), lambda pair: told_of_pair(word, graph, other, pair))


def told_of_pair(word, graph, other, pair):
    # One end may tell the truth of both, whatever the other is.
    known = eased(word, known_form(pair[0]), known_form(pair[1]))
    if known[0] == "is":
        return known[1]
    sides = ((graph, pair[0]), (other, pair[1]))
    place = min([node_at(side, number)[0] for side, number in sides if not is_end(number)])
    low = tuple([gone_on(side, number, place, False) for side, number in sides])
    high = tuple([gone_on(side, number, place, True) for side, number in sides])
    return (place, low, high)


def known_form(number):
    return ("is", number == 1) if is_end(number) else ("at", number)


def gone_on(graph, number, place, truth):
    if is_end(number) or node_at(graph, number)[0] != place:
        return number
    return node_at(graph, number)[2 if truth else 1]


def halved(graph, place, truth):
    return least_graph(graph[1], lambda number: told_of_number(graph, gone_on(graph, number, place, truth)))


def told_of_number(graph, number):
    return number == 1 if is_end(number) else node_at(graph, number)


# How many rows, and which is the first.


def how_many(graph, many):
    check_graph(graph, many)
    # A node hangs on its place alone beside what it leads to, so half of the
    # rows of each of them are its own.
    counts = [0, rows_many(many)]
    for node in graph[0]:
        counts.append((counts[node[1]] + counts[node[2]]) // 2)
    return counts[graph[1]]


def first_true(graph, many):
    check_graph(graph, many)
    number = graph[1]
    if number == 0:
        return None
    truths = [False] * many
    while not is_end(number):
        node = node_at(graph, number)
        # Every number but 0 leads to the end that is True somehow.
        truths[node[0]] = node[1] == 0
        number = node[2] if node[1] == 0 else node[1]
    return tuple(truths)
