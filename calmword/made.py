"""Machines made of expressions."""

from calmword.errors import TooMany
from calmword.joined import both_of, either_of, no_of
from calmword.least import least
from calmword.strung import behind_of


def machine_of(letters, expression, most=400):
    machines = []
    for at, row in enumerate(expression):
        try:
            machines.append(machine_of_row(letters, row, machines, most))
        except TooMany:
            raise TooMany(at) from None
    return machines[-1]


def machine_of_row(letters, row, machines, most):
    word = row[0]
    if word == "nothing":
        return nothing_machine(letters)
    if word == "blank":
        return blank_machine(letters)
    if word == "letter":
        return letter_machine(letters, row[1])
    one = machines[row[1]]
    if word == "not":
        return no_of(one)
    other = machines[row[2]]
    if word == "or":
        return either_of(one, other, most)
    if word == "and":
        return both_of(one, other, most)
    return behind_of(one, other, most)


def nothing_machine(letters):
    return (letters, (all_to(letters, 0),), (False,))


def blank_machine(letters):
    return (letters, (all_to(letters, 1), all_to(letters, 1)), (True, False))


# Which room comes up first hangs on where the letter stands among the others.
def letter_machine(letters, letter):
    first = tuple([1 if sign == letter else 2 for sign in letters])
    return least((letters, (first, all_to(letters, 2), all_to(letters, 2)), (False, True, False)))


def all_to(letters, room):
    return tuple([room for sign in letters])
