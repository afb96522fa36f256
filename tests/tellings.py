"""Expressions for the tests, and plain ways to reckon what the program should tell of them."""

import random

from samples import behind_rooms, both_rooms, least_plainly, texts_to

LEAVES = ("nothing", "blank", "letter")
JOINS = ("or", "and", "behind")
A, B, C = ("letter", "a"), ("letter", "b"), ("letter", "c")
BLANK, NOTHING = ("blank",), ("nothing",)

# Texts over a, b: all; a, then anything; ab somewhere; no b.
ALL = (NOTHING, ("not", 0))
BEGINS_A = (NOTHING, ("not", 0), A, ("behind", 2, 1))
HAS_AB = (NOTHING, ("not", 0), A, B, ("behind", 2, 3), ("behind", 1, 4), ("behind", 5, 1))
NO_B = (NOTHING, ("not", 0), B, ("behind", 1, 2), ("behind", 3, 1), ("not", 4))

# All, then a, then nine letters: a machine of 1,024 rooms.
NINE_BEHIND = (NOTHING, ("not", 0), A, ("behind", 1, 2), B, ("or", 2, 4), ("behind", 3, 5)) + tuple(
    ("behind", at, 5) for at in range(6, 14))


def doubled(first, word, rows):
    """Each row is the word of the one ahead and itself: put together, without measure."""
    return (first,) + tuple((word, at, at) for at in range(rows - 1))


def made_expression(chance, letters, rows):
    made = []
    for at in range(rows):
        words = LEAVES + (("not",) * 2 + JOINS * 2 if at else ())
        word = chance.choice(words)
        if word == "letter":
            made.append((word, chance.choice(letters)))
        elif word in LEAVES:
            made.append((word,))
        else:
            parts = 1 if word == "not" else 2
            made.append((word,) + tuple(chance.randrange(at) for _ in range(parts)))
    return tuple(made)


def made_expressions(seed, many, most_rows, letters=("a", "ba", "ab", "cab")):
    """Pairs of letters and an expression, the same each time."""
    chance = random.Random(seed)
    made = []
    for _ in range(many):
        signs = chance.choice(letters)
        made.append((signs, made_expression(chance, signs, chance.randint(1, most_rows))))
    return made


def texts_by_row(letters, expression, most):
    """For each row the set of the texts with at most so many signs that it tells."""
    told = []
    for row in expression:
        if row[0] == "nothing":
            texts = set()
        elif row[0] == "blank":
            texts = {""}
        elif row[0] == "letter":
            texts = {row[1]}
        elif row[0] == "not":
            texts = set(texts_to(letters, most)) - told[row[1]]
        elif row[0] == "or":
            texts = told[row[1]] | told[row[2]]
        elif row[0] == "and":
            texts = told[row[1]] & told[row[2]]
        else:
            texts = {one + other for one in told[row[1]] for other in told[row[2]] if len(one + other) <= most}
        told.append(texts)
    return told


def tree_of(expression, at=-1):
    """The row as it is put together, each part standing in its place."""
    row = expression[at]
    return tuple(tree_of(expression, thing) if isinstance(thing, int) else thing for thing in row)


def rows_of_tree(tree):
    """The rows of what is put together, in the order of point 15."""
    came = []

    def walk(node):
        for part in node:
            if isinstance(part, tuple):
                walk(part)
        if node not in came:
            came.append(node)

    walk(tree)
    return tuple(tuple(came.index(part) if isinstance(part, tuple) else part for part in node) for node in came)


def leaf_machine(letters, row):
    """A plain machine of a nothing, a blank or a letter: not in general the least one."""
    moves = (tuple(1 if row == ("letter", sign) else 2 for sign in letters), (2,) * len(letters), (2,) * len(letters))
    return (letters, moves, (row == ("blank",), row[0] == "letter", False))


def joined_plainly(word, one, other):
    """The least machine of two by an or, an and, a behind, with rooms as in point 12."""
    if word == "behind":
        first = (0, frozenset({0} if one[2][0] else ()))
    else:
        first = (0, 0)
    rooms, rows, yes = [first], [], []
    for left, right in rooms:
        row = []
        for sign in range(len(one[0])):
            mine = one[1][left][sign]
            if word == "behind":
                its = frozenset({other[1][number][sign] for number in right} | ({0} if one[2][mine] else set()))
            else:
                its = other[1][right][sign]
            if (mine, its) not in rooms:
                rooms.append((mine, its))
            row.append(rooms.index((mine, its)))
        rows.append(tuple(row))
        answers = (one[2][left], other[2][right]) if word != "behind" else (any(other[2][r] for r in right),)
        yes.append(any(answers) if word == "or" else all(answers))
    return least_plainly((one[0], tuple(rows), tuple(yes)))


def machines_by_row(letters, expression):
    """For each row its least machine, and how many rooms came up ahead of making it least (0: never refused)."""
    machines, counts = [], []
    for row in expression:
        if row[0] in LEAVES:
            machine, count = least_plainly(leaf_machine(letters, row)), 0
        elif row[0] == "not":
            part = machines[row[1]]
            machine, count = (letters, part[1], tuple(not answer for answer in part[2])), 0
        else:
            one, other = machines[row[1]], machines[row[2]]
            machine = joined_plainly(row[0], one, other)
            count = behind_rooms(one, other) if row[0] == "behind" else both_rooms(one, other)
        machines.append(machine)
        counts.append(count)
    return machines, counts
