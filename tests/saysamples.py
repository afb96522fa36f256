"""Sayings for the tests, and plain ways to reckon what the program should tell of them."""

import itertools
import random

from samples import least_plainly, walked

YES = ("yes",)
X_A, X_B, Y_A, Y_B, Z_A = ("is", "x", "a"), ("is", "x", "b"), ("is", "y", "a"), ("is", "y", "b"), ("is", "z", "a")
X_Y, Y_X, Y_Z, Z_X = ("ahead", "x", "y"), ("ahead", "y", "x"), ("ahead", "y", "z"), ("ahead", "z", "x")

# Closed: there is a place; each place has a; some a stands ahead of some b; the first place has a.
SOME_PLACE = (YES, ("some", "x", 0))
EACH_A = (X_A, ("each", "x", 0))
A_AHEAD_OF_B = (X_A, Y_B, X_Y, ("and", 0, 1), ("and", 3, 2), ("some", "y", 4), ("some", "x", 5))
FIRST_A = (X_A, Y_X, ("some", "y", 1), ("not", 2), ("and", 0, 3), ("some", "x", 4))


def doubled_saying(first, word, rows):
    """Each row is the word of the one ahead and itself: put together, without measure."""
    return (first,) + tuple((word, at, at) for at in range(rows - 1))


def at_least(letter, many):
    """A closed saying, with two names, of the texts in which the letter stands at least so often."""
    rows = [("is", "x", letter), ("is", "y", letter), X_Y, Y_X]
    last = 0
    for step in range(1, many):
        # The place that is kept goes from x to y and back.
        inner, outer = ("x", "y") if step % 2 else ("y", "x")
        rows.append(("and", 3 if inner == "x" else 2, last))
        rows.append(("some", inner, len(rows) - 1))
        rows.append(("and", 1 if outer == "y" else 0, len(rows) - 1))
        last = len(rows) - 1
    rows.append(("some", "x" if many % 2 else "y", last))
    return tuple(rows)


def far_ahead(many):
    """Of x and y: not (at x, just so many places ahead of y, there is a, and the first place hasn't c)."""
    rows = []

    def put(*row):
        if row not in rows:
            rows.append(row)
        return rows.index(row)

    def between(one, other):
        return [name for name in "xyz" if name not in (one, other)][0]

    def places_ahead(one, other, count):
        name = between(one, other)
        if count > 1:
            step = put("and", places_ahead(one, name, 1), places_ahead(name, other, count - 1))
            return put("some", name, step)
        inside = put("and", put("ahead", one, name), put("ahead", name, other))
        return put("and", put("ahead", one, other), put("not", put("some", name, inside)))

    far = put("and", put("is", "x", "a"), places_ahead("x", "y", many))
    first = put("not", put("some", "x", put("ahead", "x", "z")))
    begins_c = put("some", "z", put("and", first, put("is", "z", "c")))
    put("not", put("and", far, put("not", begins_c)))
    return tuple(rows)


def behind_rows(rows, more):
    """The rows of both, one behind the other, the numbers of the second's set on."""
    return rows + tuple(tuple(thing + len(rows) if isinstance(thing, int) else thing for thing in row) for row in more)


# At least 19 a and at least 20 b: at the last row 420 rooms come up.
OVER_400 = behind_rows(at_least("a", 19), at_least("b", 20))
OVER_400 += (("and", len(at_least("a", 19)) - 1, len(OVER_400) - 1),)


def names_by_row(saying):
    names = []
    for row in saying:
        if row[0] in ("is", "ahead"):
            free = {row[1]} if row[0] == "is" else {row[1], row[2]}
        else:
            free = set().union(*[names[part] for part in row if isinstance(part, int)])
        names.append(free - {row[1]} if row[0] in ("some", "each") else free)
    return [tuple(sorted(free)) for free in names]


def made_saying(chance, letters, rows, names=("x", "y", "ab", "a")):
    """Of each row at most three names are free."""
    made = []
    while len(made) < rows:
        at = len(made)
        words = ("yes", "is", "is", "ahead", "ahead") + (("not", "and", "and", "or", "some", "some", "each") * 2
                                                         if at > 2 else ())
        word = chance.choice(words)
        if word == "yes":
            row = (word,)
        elif word == "is":
            row = (word, chance.choice(names), chance.choice(letters))
        elif word == "ahead":
            row = (word, chance.choice(names), chance.choice(names))
        elif word == "not":
            row = (word, chance.randrange(at))
        elif word in ("and", "or"):
            row = (word, chance.randrange(at), chance.randrange(at))
        else:
            row = (word, chance.choice(names), chance.randrange(at))
        if len(names_by_row(made + [row])[-1]) <= 3:
            made.append(row)
    return tuple(made)


def made_sayings(seed, many, most_rows, letters=("a", "ba", "cab")):
    """Pairs of letters and a saying, the same each time."""
    chance = random.Random(seed)
    made = []
    for _ in range(many):
        signs = chance.choice(letters)
        made.append((signs, made_saying(chance, signs, chance.randint(1, most_rows))))
    return made


def closed_sayings(seed, many, letters):
    """The first so many closed ones of those that are drawn."""
    found = [saying for _, saying in made_sayings(seed, 12 * many, 12, (letters,)) if not names_by_row(saying)[-1]]
    return found[:many]


def holds_plainly(saying, text, places, at=-1):
    """Straight by the words of point 19, the row put together."""
    row = saying[at]
    if row[0] == "yes":
        return True
    if row[0] == "is":
        return text[places[row[1]]] == row[2]
    if row[0] == "ahead":
        return places[row[1]] < places[row[2]]
    if row[0] == "not":
        return not holds_plainly(saying, text, places, row[1])
    if row[0] == "and":
        return holds_plainly(saying, text, places, row[1]) and holds_plainly(saying, text, places, row[2])
    if row[0] == "or":
        return holds_plainly(saying, text, places, row[1]) or holds_plainly(saying, text, places, row[2])
    truths = [holds_plainly(saying, text, {**places, row[1]: place}, row[2]) for place in range(len(text))]
    return any(truths) if row[0] == "some" else all(truths)


def all_places(names, text):
    """All dicts that give each name a place of the text."""
    return [dict(zip(names, chosen)) for chosen in itertools.product(range(len(text)), repeat=len(names))]


def signs_plainly(letters, names):
    """For each marked letter in order the letter and the set of the names marked there."""
    return [(letter, {name for name, mark in zip(names, marks) if mark})
            for letter in letters for marks in itertools.product((0, 1), repeat=len(names))]


def sign_number(letters, names, letter, marked):
    return [(one, other & set(names)) for one, other in signs_plainly(letters, names)].index(
        (letter, marked & set(names)))


def lean(letters, names, first, step, answer):
    """A machine (names, moves, yes), with the least rooms, and how many came up ahead of that."""
    signs = signs_plainly(letters, names)
    rooms, rows = [first], []
    for room in rooms:
        row = [step(room, letter, marked) for letter, marked in signs]
        rooms.extend(target for target in dict.fromkeys(row) if target not in rooms)
        rows.append(row)
    moves = tuple(tuple(rooms.index(target) for target in row) for row in rows)
    numbers = "".join(chr(65 + number) for number in range(len(signs)))
    least = least_plainly((numbers, moves, tuple(answer(room) for room in rooms)))
    count = walked(first, len(signs), lambda room, sign: step(room, *signs[sign]))
    return (names,) + least[1:], count


def parts_machine(letters, names, parts, answer):
    """Point 22 of a not, an and, an or."""
    def step(room, letter, marked):
        seen, rooms = room
        again = seen is None or seen & marked
        targets = tuple(part[1][own][sign_number(letters, part[0], letter, marked)]
                        for part, own in zip(parts, rooms))
        return None if again else seen | frozenset(marked), targets

    return lean(letters, names, (frozenset(), (0,) * len(parts)), step, lambda room: room[0] == set(names) and answer(
        [part[2][own] for part, own in zip(parts, room[1])]))


def some_plainly(letters, name, part):
    """Point 22 of a some."""
    names = tuple(other for other in part[0] if other != name)
    if name not in part[0]:
        def step_on(room, letter, marked):
            return part[1][room[0]][sign_number(letters, names, letter, marked)], True

        return lean(letters, names, (0, False), step_on, lambda room: part[2][room[0]] and room[1])

    def step(rooms, letter, marked):
        numbers = [sign_number(letters, part[0], letter, marked | more) for more in (set(), {name})]
        return frozenset(part[1][room][number] for room in rooms for number in numbers)

    return lean(letters, names, frozenset({0}), step, lambda rooms: any(part[2][room] for room in rooms))


def leaf_plainly(letters, row, names):
    """Of a yes, an is, an ahead: rooms are what came so far, as far as it matters."""
    def step(room, letter, marked):
        if room is None or not marked:
            return room
        if any(name in [came[0] for came in room] for name in marked) or (
                row[0] == "is" and letter != row[2]) or len(marked) > 1:
            return None
        return room + ((tuple(marked)[0], letter),)

    def answer(room):
        if room is None or len(room) < len(names):
            return False
        return row[0] != "ahead" or (row[1] != row[2] and room[0][0] == row[1])

    return lean(letters, names, (), step, answer)[0]


def said_by_row(letters, saying):
    """For each row its machine, and the most rooms that came up in its making (0: never refused)."""
    machines, counts = [], []
    for row, names in zip(saying, names_by_row(saying)):
        if row[0] in ("yes", "is", "ahead"):
            machine, count = leaf_plainly(letters, row, names), 0
        elif row[0] == "not":
            machine, count = parts_machine(letters, names, [machines[row[1]]], lambda truths: not truths[0])
        elif row[0] in ("and", "or"):
            machine, count = parts_machine(letters, names, [machines[row[1]], machines[row[2]]],
                                           all if row[0] == "and" else any)
        elif row[0] == "some":
            machine, count = some_plainly(letters, row[1], machines[row[2]])
        else:
            part = machines[row[2]]
            inner, first = parts_machine(letters, part[0], [part], lambda truths: not truths[0])
            middle, second = some_plainly(letters, row[1], inner)
            machine, third = parts_machine(letters, names, [middle], lambda truths: not truths[0])
            count = max(first, second, third)
        machines.append(machine)
        counts.append(count)
    return machines, counts


def run_signs(machine, numbers):
    """Whether a machine (names, moves, yes) lets by a list of numbers of marked letters."""
    room = 0
    for number in numbers:
        room = machine[1][room][number]
    return machine[2][room]
