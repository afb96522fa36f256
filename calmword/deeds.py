"""Deeds: what texts do to the rooms of the least machine."""

from calmword.least import apart, least
from calmword.machines import led
from calmword.walks import come_up


# The first text that does a deed goes on from the first text of another one: a text that goes ahead of that would
# do the same with the letters behind it. So deeds come up in the order of their first texts.
def deeds(machine, most=2000):
    lean = least(machine)
    signs = len(lean[0])
    single = [tuple([row[sign] for row in lean[1]]) for sign in range(signs)]
    came = come_up(tuple(range(len(lean[1]))), signs, lambda deed, sign: put(deed, single[sign]), most)
    texts = first_ways(lean[0], came[1])
    return [(texts[number], deed) for number, deed in enumerate(came[0])]


# For each number the first text that leads to it from 0 on, of moves that are numbered as they come up.
def first_ways(letters, moves):
    ways = {0: ""}
    for number, row in enumerate(moves):
        for letter, target in zip(letters, row):
            if target not in ways:
                ways[target] = ways[number] + letter
    return ways


def deed_of(machine, text):
    lean = least(machine)
    return tuple([led(lean, room, text) for room in range(len(lean[1]))])


def put(one, other):
    return tuple([other[room] for room in one])


def told_apart(machine, one, other):
    lean = least(machine)
    room = [room for room in range(len(one)) if one[room] != other[room]][0]
    return (first_ways(lean[0], lean[1])[room], apart(lean, one[room], other[room]))


# By room, how often the deed leads it on to another one until it stays. Each way is walked up to a room that is known
# already; one that comes back to itself goes round without end.
def stand_of(deed):
    steps = dict([(room, 0) for room in range(len(deed)) if deed[room] == room])
    for room in range(len(deed)):
        way = way_to_known(deed, room, steps)
        if way is None:
            return None
        for passed in reversed(way):
            steps[passed] = steps[deed[passed]] + 1
    return max(1, max(steps.values()))


def way_to_known(deed, room, known):
    way = {}
    while room not in known:
        if room in way:
            return None
        way[room] = True
        room = deed[room]
    return list(way)


def calm(machine):
    return all([stand_of(deed) is not None for text, deed in deeds(machine)])
