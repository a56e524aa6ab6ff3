"""Decision graphs of forms and tables, kept least."""

from circuits.easing import chosen
from circuits.graphing import check_graph, gone_on, is_end, joined, least_graph, node_at, turned
from circuits.tables import is_one_truth, places_of


def graph(form):
    word = form[0]
    if word == "is":
        return ([], 1 if form[1] else 0)
    if word == "at":
        return ([(form[1], 0, 1)], 2)
    if word == "not":
        return turned(graph(form[1]))
    return joined(word, graph(form[1]), graph(form[2]))


def graph_of_table(table):
    places_of(table)
    return least_graph((0, tuple(table)), told_of_truths)


def told_of_truths(thing):
    place = thing[0]
    truths = thing[1]
    if is_one_truth(truths):
        return truths[0]
    middle = len(truths) // 2
    return (place, (place + 1, truths[:middle]), (place + 1, truths[middle:]))


def walked(graph, row):
    check_graph(graph, len(row))
    number = graph[1]
    while not is_end(number):
        place = node_at(graph, number)[0]
        number = gone_on(graph, number, place, row[place])
    return number == 1


def form_of_graph(graph):
    forms = [("is", False), ("is", True)]
    # What a node leads to stands ahead of it.
    for place, low, high in graph[0]:
        forms.append(chosen(place, forms[low], forms[high]))
    return forms[graph[1]]
