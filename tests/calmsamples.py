"""Calm machines for the tests, and what an expression or a saying told of one must be."""

import itertools
import random

from calmword.expressions import look_expression, tidied
from calmword.holding import holds
from calmword.made import machine_of
from calmword.saymade import saying_machine
from calmword.sayings import free_names, look_saying
from samples import blown_up, deed_plainly, least_plainly, made_machine, read_plainly, stand_plainly, texts_to


def calm_plainly(machine):
    """By all deeds of the least machine, walked letter by letter."""
    lean = least_plainly(machine)
    single = [deed_plainly(lean, letter) for letter in lean[0]]
    seen = {tuple(range(len(lean[1]))): True}
    due = list(seen)
    for deed in due:
        if stand_plainly(deed) is None:
            return False
        for further in [tuple(other[room] for room in deed) for other in single]:
            if further not in seen:
                seen[further] = True
                due.append(further)
    return True


def all_machines(letters, rooms):
    """All machines with so many rooms that are the least ones."""
    for moves in itertools.product(itertools.product(range(rooms), repeat=len(letters)), repeat=rooms):
        for yes in itertools.product((False, True), repeat=rooms):
            machine = (letters, moves, yes)
            if least_plainly(machine) == machine:
                yield machine


def drawn_machines(seed, many, rooms, letters, is_calm=True):
    """Least machines of just so many rooms, calm or not."""
    chance = random.Random(seed)
    found = []
    while len(found) < many:
        machine = least_plainly(made_machine(chance, letters, rooms))
        if len(machine[1]) == rooms and machine not in found and calm_plainly(machine) == is_calm:
            found.append(machine)
    return found


# Calm machines the expressions of which are among the longest.
HARD = (
    ("ab", ((0, 1), (2, 3), (2, 2), (1, 2)), (False, True, True, False)),
    ("ab", ((0, 1), (1, 2), (1, 3), (2, 3)), (True, False, True, True)),
    ("ab", ((0, 1), (0, 2), (1, 2)), (False, True, False)),
    ("abc", ((0, 0, 1), (2, 0, 2), (2, 1, 2)), (True, False, True)),
    ("abc", ((0, 1, 0), (0, 2, 1), (1, 2, 2)), (False, True, False)))


def within_bounds(seed):
    """Calm machines of each size of point 30, some with rooms that don't come up or are alike."""
    machines = list(HARD)
    for rooms, letters, many in ((1, "a", 1), (1, "cab", 2), (2, "a", 2), (2, "ba", 5), (2, "cab", 10), (3, "a", 4),
                                 (3, "ba", 20), (3, "cab", 30), (4, "a", 8), (4, "ba", 30)):
        machines.extend(drawn_machines(seed, many, rooms, letters))
    return machines + [blown_up(machine, seed, 20) for machine in machines[::6]]


def tells_the_machine(test, machine, expression):
    """What point 30 asks of an expression of a calm machine."""
    letters = machine[0]
    test.assertIs(type(expression), tuple)
    test.assertIs(look_expression(letters, expression), True)
    test.assertEqual(tidied(expression), expression)
    test.assertEqual(machine_of(letters, expression, 400), least_plainly(machine), (machine, expression))


def holds_of_the_machine(test, machine, saying, most_signs):
    """What point 32 asks of a saying of a calm machine."""
    letters = machine[0]
    test.assertIs(look_saying(letters, saying), True)
    test.assertEqual(free_names(saying), ())
    names = {row[1] for row in saying if row[0] in ("is", "ahead", "some", "each")}
    names |= {row[2] for row in saying if row[0] == "ahead"}
    test.assertLessEqual(len(names), 3)
    for text in texts_to(letters, most_signs):
        test.assertIs(holds(saying, text, {}), read_plainly(machine, text), (machine, saying, text))
    if len(least_plainly(machine)[1]) <= 2:
        test.assertEqual(saying_machine(letters, saying, 400), least_plainly(machine))
