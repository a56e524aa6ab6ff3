"""Forms made of forms, with the plain truths among them taken out."""


def eased_not(form):
    if form[0] == "is":
        return ("is", not form[1])
    return ("not", form)


def eased(word, form, other):
    if form[0] == "is":
        return with_truth(word, form[1], other)
    if other[0] == "is":
        return with_truth(word, other[1], form)
    return (word, form, other)


def with_truth(word, truth, form):
    if word == "and":
        return form if truth else ("is", False)
    if word == "or":
        return ("is", True) if truth else form
    return eased_not(form) if truth else form


def chosen(place, low, high):
    # Low where the place is False, high where it is True; they are unlike.
    here = ("at", place)
    if low == ("is", True):
        return eased("or", ("not", here), high)
    if high == ("is", True):
        return eased("or", here, low)
    return eased("or", eased("and", ("not", here), low), eased("and", here, high))
