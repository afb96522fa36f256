"""Sayings: tuples of rows that say something of a text and of places of it that have names."""

from calmword.errors import BadRow
from calmword.rows import has_form, is_one_letter, is_row_ahead, parts_of

FORMS = {
    "yes": (), "is": ("name", "letter"), "ahead": ("name", "name"), "not": ("row",),
    "and": ("row", "row"), "or": ("row", "row"), "some": ("name", "row"), "each": ("name", "row"),
}
NO_NAMES = ("yes", "is", "not", "and", "or")
BINDING = ("some", "each")
MOST_NAMES = 3


def is_name(text):
    if len(text) < 1 or len(text) > 3 or text in NO_NAMES:
        return False
    return all(["a" <= sign <= "z" for sign in text])


def look_saying(letters, saying):
    if len(saying) == 0:
        raise BadRow(0)
    names = []
    for at, row in enumerate(saying):
        if not is_saying_row(letters, row, at):
            raise BadRow(at)
        names.append(names_of_row(row, names))
        if len(names[at]) > MOST_NAMES:
            raise BadRow(at)
    return True


def is_saying_row(letters, row, at):
    if len(row) == 0 or row[0] not in FORMS:
        return False
    return has_form(row, FORMS[row[0]], lambda kind, thing: fits(letters, at, kind, thing))


def fits(letters, at, kind, thing):
    if kind == "row":
        return is_row_ahead(thing, at)
    if kind == "letter":
        return is_one_letter(thing, letters)
    return isinstance(thing, str) and is_name(thing)


def free_names(saying):
    return names_of_rows(saying)[-1]


# For each row its free names, rising.
def names_of_rows(saying):
    names = []
    for row in saying:
        names.append(names_of_row(row, names))
    return names


def names_of_row(row, names):
    word = row[0]
    if word == "is":
        return (row[1],)
    if word == "ahead":
        return tuple(sorted(set(row[1:])))
    free = []
    for part in parts_of(row):
        free.extend(names[part])
    if word in BINDING:
        free = [name for name in free if name != row[1]]
    return tuple(sorted(set(free)))


def depth_of(saying):
    depths = []
    for row in saying:
        inner = max([depths[part] for part in parts_of(row)], default=0)
        depths.append(inner + 1 if row[0] in BINDING else inner)
    return depths[-1]
