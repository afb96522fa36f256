"""Rooms of any form, numbered as they come up from a first one on."""

from calmword.errors import TooMany


# step(room, number of a sign) tells the room to which the sign leads. Told are the rooms in the order in which
# they came up, and the moves by their numbers; without `most` there is no bound.
def come_up(first, signs, step, most=None, at=0):
    numbers = {first: 0}
    rooms = [first]
    moves = []
    while len(moves) < len(rooms):
        room = rooms[len(moves)]
        row = []
        for sign in range(signs):
            target = step(room, sign)
            if target not in numbers:
                if len(rooms) == most:
                    raise TooMany(at)
                numbers[target] = len(rooms)
                rooms.append(target)
            row.append(numbers[target])
        moves.append(tuple(row))
    return (rooms, tuple(moves))
