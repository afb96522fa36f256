"""Countings: texts u, v, w, where u, n times v, w is let by or not by n's rest, from a first n on without end."""

from calmword.deeds import deeds, first_ways, put, stand_of
from calmword.least import apart, least
from calmword.machines import led


def counting(machine):
    lean = least(machine)
    for text, deed in deeds(lean):
        if stand_of(deed) is None:
            return counting_by(lean, text, deed)
    return None


# u leads right into a ring of rooms, so the counting begins at 0; w tells two of its rooms apart, so the truths along
# the ring aren't all the same.
def counting_by(lean, text, deed):
    ring = ring_of(deed)
    start = first_ways(lean[0], lean[1])[ring[0]]
    end = apart(lean, ring[0], ring[1])
    truths = tuple([lean[2][led(lean, room, end)] for room in ring])
    return (start, text, end, 0, shortest_round(truths))


# The rooms, two or more, of a ring that the deed leads round without end. As often put behind itself as there are
# rooms, it leads each room into a ring or to a stand.
def ring_of(deed):
    far = deed
    for step in deed:
        far = put(far, deed)
    ring = [min([room for room in far if deed[room] != room])]
    while deed[ring[-1]] != ring[0]:
        ring.append(deed[ring[-1]])
    return ring


# The shortest tuple that, told again and again, is the one handed in.
def shortest_round(truths):
    for count in range(1, len(truths)):
        if truths == truths[:count] * (len(truths) // count):
            return truths[:count]
    return truths


# Rooms and places in the rest come back together, so it is enough to go on to the first pair that was there already.
def counting_holds(machine, counting):
    text = counting[1]
    rest = counting[4]
    if text == "" or len(rest) < 2 or shortest_round(rest) != rest:
        return False
    room = led(machine, 0, counting[0] + text * counting[3])
    place = 0
    seen = {}
    while (room, place) not in seen:
        seen[(room, place)] = True
        if machine[2][led(machine, room, counting[2])] != rest[place]:
            return False
        room = led(machine, room, text)
        place = (place + 1) % len(rest)
    return True
