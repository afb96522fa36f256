"""Machines strung together: behind, about, begun, ended."""

from calmword.least import least, least_from, led_from
from calmword.machines import led
from calmword.pairs import look_same_letters
from calmword.walks import come_up


def behind_of(one, other, most=400):
    look_same_letters(one, other)
    left = least(one)
    right = least(other)
    came = come_up(entered(left, 0, []), len(left[0]), lambda room, sign: behind_on(left, right, room, sign), most)
    yes = [any([right[2][number] for number in room[1]]) for room in came[0]]
    return least((left[0], came[1], yes))


def behind_on(left, right, room, sign):
    numbers = [right[1][number][sign] for number in room[1]]
    return entered(left, left[1][room[0]][sign], numbers)


# Where the first machine lets by what came so far, a text of the second may begin there.
def entered(left, room, numbers):
    if left[2][room]:
        numbers.append(0)
    return (room, tuple(sorted(set(numbers))))


def about_of(machine, most=400):
    lean = least(machine)
    sources = [led_from(lean[1], sign) for sign in range(len(lean[0]))]
    first = tuple([room for room, answer in enumerate(lean[2]) if answer])
    came = come_up(first, len(lean[0]), lambda rooms, sign: all_sources(sources[sign], rooms), most)
    return least((lean[0], came[1], [0 in rooms for rooms in came[0]]))


# A letter leads from each room to one alone, so none is gathered twice.
def all_sources(sources, rooms):
    gathered = []
    for room in rooms:
        gathered.extend(sources[room])
    return tuple(sorted(gathered))


def begun(machine, text):
    lean = least(machine)
    rest = least_from(lean[1], lean[2], led(lean, 0, text))
    return (lean[0], rest[0], rest[1])


def ended(machine, text):
    lean = least(machine)
    yes = [lean[2][led(lean, room, text)] for room in range(len(lean[1]))]
    return least((lean[0], lean[1], yes))
