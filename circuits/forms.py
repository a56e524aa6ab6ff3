"""Forms of truths: their values, their places, and forms put in for places."""

from circuits.errors import NoPlace


def value(form, row):
    word = form[0]
    if word == "is":
        return form[1]
    if word == "at":
        return thing_at(row, form[1])
    if word == "not":
        return not value(form[1], row)
    # Both sides are asked even where one would do: a place that the row
    # has not is refused wherever it stands.
    left = value(form[1], row)
    right = value(form[2], row)
    if word == "and":
        return left and right
    if word == "or":
        return left or right
    return left != right


def thing_at(things, place):
    # Python would count a place below nought from the end. The words name no
    # number that was handed in: Python writes none of some thousand digits.
    if place < 0 or place >= len(things):
        raise NoPlace("there is nothing for a place of the form")
    return things[place]


def places_in(form):
    places = []
    waiting = [form]
    while len(waiting) > 0:
        part = waiting.pop()
        if part[0] == "at":
            places.append(part[1])
        elif part[0] != "is":
            waiting.extend(part[1:])
    return sorted(set(places))


def put_in(form, forms):
    word = form[0]
    if word == "is":
        return form
    if word == "at":
        return thing_at(forms, form[1])
    if word == "not":
        return ("not", put_in(form[1], forms))
    return (word, put_in(form[1], forms), put_in(form[2], forms))
