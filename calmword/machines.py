"""Machines that read texts letter by letter: tuples (letters, moves, yes)."""

from calmword.errors import BadLetters, BadRoom, NoLetter
from calmword.letters import is_letters


def look_machine(machine):
    letters = machine[0]
    moves = machine[1]
    yes = machine[2]
    if not is_letters(letters):
        raise BadLetters()
    if len(moves) != len(yes) or len(moves) == 0:
        raise BadRoom(min(len(moves), len(yes)))
    for room, row in enumerate(moves):
        if len(row) != len(letters) or not all([0 <= target < len(moves) for target in row]):
            raise BadRoom(room)
    return True


def led(machine, room, text):
    letters = machine[0]
    moves = machine[1]
    for place, sign in enumerate(text):
        number = letters.find(sign)
        if number < 0:
            raise NoLetter(place)
        room = moves[room][number]
    return room


def lets(machine, text):
    yes = machine[2]
    return yes[led(machine, 0, text)]
