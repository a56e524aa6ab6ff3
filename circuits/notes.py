"""Forms written in words, and read from them again."""

from circuits.errors import BadText, NoName
from circuits.forms import thing_at

WORDS = ("yes", "no", "not", "and", "odd", "or")
JOINING = ("and", "odd", "or")
LONGEST_NAME = 8
MOST_BRACKETS = 12

# How tightly each word holds; an opened bracket holds nothing, so that no
# word behind it reaches what stands ahead of it.
TIGHTNESS = {"(": 0, "or": 1, "odd": 2, "and": 3, "not": 4}
LOOSEST_WORD = 1
WHOLE = 5


def shown(form, names):
    places_by_name(names)
    return text_of(form, names)


def read(text, names):
    places = places_by_name(names)
    pieces = pieces_of(text)
    wrong = first_fault(pieces, places, len(text))
    if wrong is not None:
        raise BadText(f"the text can't be read from {wrong} on")
    return form_of_pieces(pieces, places)


def fault(text, names):
    places = places_by_name(names)
    return first_fault(pieces_of(text), places, len(text))


# Names.


def places_by_name(names):
    places = {}
    for place, name in enumerate(names):
        if not is_name(name):
            raise NoName(f"{name!r} is no name")
        if name in places:
            raise NoName(f"the name {name} stands twice")
        places[name] = place
    return places


def is_name(name):
    if len(name) < 1 or len(name) > LONGEST_NAME or name in WORDS:
        return False
    return all([is_small_letter(sign) for sign in name])


def is_small_letter(sign):
    return "a" <= sign and sign <= "z"


# From a form to its text.


def text_of(form, names):
    word = form[0]
    if word == "is":
        return "yes" if form[1] else "no"
    if word == "at":
        return thing_at(names, form[1])
    own = TIGHTNESS[word]
    if word == "not":
        inner = bracketed(form[1], own, names)
        return f"not {inner}"
    left = bracketed(form[1], own, names)
    # Each word goes from the left, so the right side must hold tighter.
    right = bracketed(form[2], own + 1, names)
    return f"{left} {word} {right}"


def bracketed(form, least, names):
    text = text_of(form, names)
    if TIGHTNESS.get(form[0], WHOLE) < least:
        return f"({text})"
    return text


# From a text to its words and signs, each with its place.


def pieces_of(text):
    pieces = []
    place = 0
    while place < len(text):
        end = end_of_piece(text, place)
        if text[place] != " ":
            pieces.append((place, text[place:end]))
        place = end
    return pieces


def end_of_piece(text, place):
    end = place
    while end < len(text) and is_small_letter(text[end]):
        end = end + 1
    return max(end, place + 1)


# What can stand where. Neither this nor the making of the form below calls
# itself: a text may have thousands of words ahead of its fault.


def first_fault(pieces, places, length):
    awaits_form = True
    brackets = 0
    for place, piece in pieces:
        if awaits_form:
            fine = can_begin(piece, brackets, places)
        else:
            fine = can_follow(piece, brackets)
        if not fine:
            return place
        if piece == "(":
            brackets = brackets + 1
        elif piece == ")":
            brackets = brackets - 1
        else:
            awaits_form = piece == "not" or piece in JOINING
    if awaits_form or brackets > 0:
        return length
    return None


def can_begin(piece, brackets, places):
    if piece == "(":
        return brackets < MOST_BRACKETS
    return piece in ("yes", "no", "not") or piece in places


def can_follow(piece, brackets):
    if piece == ")":
        return brackets > 0
    return piece in JOINING


# From words and signs without a fault to the form.


def form_of_pieces(pieces, places):
    forms = []
    waiting = []
    for place, piece in pieces:
        if piece == "(" or piece == "not":
            waiting.append(piece)
        elif piece == ")":
            settle(forms, waiting, LOOSEST_WORD)
            waiting.pop()
        elif piece in JOINING:
            settle(forms, waiting, TIGHTNESS[piece])
            waiting.append(piece)
        else:
            forms.append(plain_form(piece, places))
    settle(forms, waiting, LOOSEST_WORD)
    return forms[0]


def settle(forms, waiting, least):
    # The last words that hold at least so tightly have all their forms now.
    while len(waiting) > 0 and TIGHTNESS[waiting[-1]] >= least:
        word = waiting.pop()
        last = forms.pop()
        if word == "not":
            forms.append(("not", last))
        else:
            forms.append((word, forms.pop(), last))


def plain_form(piece, places):
    if piece == "yes":
        return ("is", True)
    if piece == "no":
        return ("is", False)
    return ("at", places[piece])
