"""Things held against one another: machines, expressions and closed sayings."""

from calmword.errors import OtherLetters
from calmword.least import least
from calmword.machines import led
from calmword.made import machine_of
from calmword.pairs import compared
from calmword.saymade import saying_machine


def parted(letters, one, other):
    left = thing_machine(letters, one)
    return compared(left, thing_machine(letters, other))


# The least machine of a thing.
def thing_machine(letters, thing):
    if thing[0] == "expression":
        return machine_of(letters, thing[1])
    if thing[0] == "saying":
        return saying_machine(letters, thing[1])
    if thing[1][0] != letters:
        raise OtherLetters()
    return least(thing[1])


# Expressions and sayings can't count, so they part from a counting that holds on some n.
def outrun(machine, counting, thing):
    made = thing_machine(machine[0], thing)
    text = counting[1]
    n = counting[3]
    left = led(machine, 0, counting[0] + text * n)
    right = led(made, 0, counting[0] + text * n)
    while machine[2][led(machine, left, counting[2])] == made[2][led(made, right, counting[2])]:
        n += 1
        left = led(machine, left, text)
        right = led(made, right, text)
    return n
