"""Machines made of sayings, over letters that are marked by the free names."""

from calmword.errors import NotClosed, TooMany
from calmword.least import least_from
from calmword.marks import marked_letters, marked_number
from calmword.sayings import free_names, names_of_rows
from calmword.walks import come_up


def saying_machine(letters, saying, most=400):
    names = free_names(saying)
    if len(names) > 0:
        raise NotClosed(names)
    made = marked_machine(letters, saying, most)
    return (letters, made[1], made[2])


def marked_machine(letters, saying, most=400):
    machines = []
    for at, names in enumerate(names_of_rows(saying)):
        try:
            machines.append(machine_of_row(letters, saying[at], names, machines, most))
        except TooMany:
            raise TooMany(at) from None
    return machines[-1]


def machine_of_row(letters, row, names, machines, most):
    word = row[0]
    if word == "yes":
        return (names, (tuple([0 for letter in letters]),), (True,))
    if word == "is":
        return is_machine(letters, row[1], row[2])
    if word == "ahead":
        return ahead_machine(letters, names, row[1], row[2])
    if word == "not":
        return not_machine(letters, machines[row[1]], most)
    if word == "and":
        return of_parts(letters, names, [machines[row[1]], machines[row[2]]], lambda truths: all(truths), most)
    if word == "or":
        return of_parts(letters, names, [machines[row[1]], machines[row[2]]], lambda truths: any(truths), most)
    if word == "some":
        return some_machine(letters, names, row[1], machines[row[2]], most)
    inner = some_machine(letters, names, row[1], not_machine(letters, machines[row[2]], most), most)
    return not_machine(letters, inner, most)


def lean_machine(names, moves, yes):
    lean = least_from(moves, yes, 0)
    return (names, lean[0], lean[1])


# For each marked letter a tuple of the letter and a tuple of the names that are marked there.
def signs_of(letters, names):
    signs = []
    for letter, truths in marked_letters(letters, names):
        signs.append((letter, tuple([name for name, marked in zip(names, truths) if marked])))
    return signs


# Rooms: no mark came; one came, at the letter; what came can't be let by any more.
def is_machine(letters, name, asked):
    first = []
    for letter, marked in signs_of(letters, (name,)):
        first.append(0 if marked == () else (1 if letter == asked else 2))
    moves = (first, marked_on(letters, (name,), 1, 2), marked_on(letters, (name,), 2, 2))
    return lean_machine((name,), moves, (False, True, False))


# Where no name is marked the room stays, else the mark leads on.
def marked_on(letters, names, room, further):
    return [room if marked == () else further for letter, marked in signs_of(letters, names)]


# Rooms: no mark came; one alone; the other behind it; what came can't be let by any more. A place isn't ahead of
# itself, so of one and the same name nothing is let by.
def ahead_machine(letters, names, one, other):
    first = []
    second = []
    for letter, marked in signs_of(letters, names):
        first.append(0 if marked == () else (1 if marked == (one,) else 3))
        second.append(1 if marked == () else (2 if marked == (other,) else 3))
    moves = (first, second, marked_on(letters, names, 2, 3), marked_on(letters, names, 3, 3))
    return lean_machine(names, moves, (False, False, one != other, False))


def not_machine(letters, part, most):
    return of_parts(letters, part[0], [part], lambda truths: not truths[0], most)


# Rooms (seen, rooms of the parts); each part goes by the marks of its own names.
def of_parts(letters, names, parts, answer, most):
    signs = signs_of(letters, names)
    ways = [[marked_number(letters, part[0], letter, marked) for letter, marked in signs] for part in parts]

    def step(room, sign):
        rooms = [part[1][own][way[sign]] for part, own, way in zip(parts, room[1], ways)]
        return (seen_on(room[0], signs[sign][1]), tuple(rooms))

    came = come_up(((), tuple([0 for part in parts])), len(signs), step, most)
    yes = []
    for seen, rooms in came[0]:
        yes.append(seen == names and answer([part[2][own] for part, own in zip(parts, rooms)]))
    return lean_machine(names, came[1], yes)


# None, from there on where a name was marked a second time.
def seen_on(seen, marked):
    if seen is None or any([name in seen for name in marked]):
        return None
    return tuple(sorted(seen + marked))


def some_machine(letters, names, name, part, most):
    if name not in part[0]:
        return with_some_letter(letters, part, most)
    pairs = []
    for letter, marked in signs_of(letters, names):
        unmarked = marked_number(letters, part[0], letter, marked)
        pairs.append((unmarked, marked_number(letters, part[0], letter, marked + (name,))))

    def step(rooms, sign):
        targets = [part[1][room][pairs[sign][0]] for room in rooms]
        targets.extend([part[1][room][pairs[sign][1]] for room in rooms])
        return tuple(sorted(set(targets)))

    came = come_up((0,), len(pairs), step, most)
    return lean_machine(names, came[1], [any([part[2][room] for room in rooms]) for rooms in came[0]])


# A name that isn't free in the part only asks that the text has a place.
def with_some_letter(letters, part, most):
    came = come_up((0, False), len(part[1][0]), lambda room, sign: (part[1][room[0]][sign], True), most)
    return lean_machine(part[0], came[1], [part[2][room] and further for room, further in came[0]])
