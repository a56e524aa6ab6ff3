"""Sheets: circuits written row by row."""

from circuits.errors import BadSheet
from circuits.notes import fault, is_name, read, shown

ROW_WORDS = ("in", "held", "out")
FIRST_TRUTHS = ("yes", "no")
MOST_NAMES = {"in": 3, "held": 4, "out": 6}

# What the row ahead may be; the row in has none ahead of it.
BEHIND = {"in": ("",), "held": ("in", "held"), "out": ("in", "held", "out")}


def read_sheet(text):
    if fault_row(text) is not None:
        raise BadSheet("the text is no sheet")
    parts = standing_parts(text.split("\n"))[0]
    names = tuple([names_of(parts, word) for word in ROW_WORDS])
    forms = [read(part["form"], names[0] + names[1]) for part in parts if part["word"] != "in"]
    firsts = [part["first"] == "yes" for part in parts if part["word"] == "held"]
    cells = len(firsts)
    return (names, (len(names[0]), tuple(zip(firsts, forms[:cells])), tuple(forms[cells:])))


def fault_row(text):
    found = standing_parts(text.split("\n"))
    if found[1] is not None:
        return found[1]
    names = names_of(found[0], "in") + names_of(found[0], "held")
    for part in found[0]:
        if part["word"] != "in" and fault(part["form"], names) is not None:
            return part["row"]
    return None


# What a row can be whatever its form.


def standing_parts(rows):
    # The parts of the rows, and the number of the first that can't stand.
    parts = []
    for number, row in enumerate(rows):
        if len(words_in(row)) > 0:
            part = part_of_row(row, number)
            if not can_stand(part, parts):
                return (parts, number)
            parts.append(part)
    return (parts, len(rows) if len(parts) == 0 else None)


def words_in(text):
    return [word for word in text.split(" ") if word != ""]


def part_of_row(row, number):
    sides = row.partition("=")
    words = words_in(sides[0])
    part = {"row": number, "word": "", "names": (), "first": None, "form": sides[2]}
    if words[:1] == ["in"] and sides[1] == "":
        part.update({"word": "in", "names": tuple(words[1:])})
    elif words[:1] == ["held"] and sides[1] == "=" and len(words) == 3 and words[2] in FIRST_TRUTHS:
        part.update({"word": "held", "names": (words[1],), "first": words[2]})
    elif words[:1] == ["out"] and sides[1] == "=" and len(words) == 2:
        part.update({"word": "out", "names": (words[1],)})
    return part


def can_stand(part, ahead):
    word = part["word"]
    last = ahead[-1]["word"] if len(ahead) > 0 else ""
    if word not in ROW_WORDS or last not in BEHIND[word]:
        return False
    if len(names_of(ahead, word) + part["names"]) > MOST_NAMES[word]:
        return False
    taken = []
    for other in ROW_WORDS:
        taken.extend(names_of(ahead, other))
    for name in part["names"]:
        if name in taken or name in ROW_WORDS or not is_name(name):
            return False
        taken.append(name)
    return True


def names_of(parts, word):
    names = ()
    for part in parts:
        if part["word"] == word:
            names = names + part["names"]
    return names


# From a circuit to its sheet.


def shown_sheet(names, circuit):
    known = names[0] + names[1]
    rows = [" ".join(("in",) + names[0])]
    for name, cell in zip(names[1], circuit[1]):
        first = "yes" if cell[0] else "no"
        form = shown(cell[1], known)
        rows.append(f"held {name} {first} = {form}")
    for name, answer in zip(names[2], circuit[2]):
        form = shown(answer, known)
        rows.append(f"out {name} = {form}")
    return "".join([f"{row}\n" for row in rows])
