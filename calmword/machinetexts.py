"""Machines written as texts, and read from them."""

from calmword.errors import BadText
from calmword.letters import is_letters
from calmword.machines import look_machine


def show_machine(machine):
    letters = machine[0]
    moves = machine[1]
    yes = machine[2]
    rows = [f"machine {letters}"]
    for room, targets in enumerate(moves):
        words = [str(room), "yes" if yes[room] else "no"]
        words.extend([str(target) for target in targets])
        rows.append(" ".join(words))
    return "\n".join(rows)


def read_machine(text):
    rows = text.split("\n")
    first = rows[0].split(" ")
    if len(first) != 2 or first[0] != "machine" or not is_letters(first[1]):
        raise BadText(0)
    if len(rows) == 1:
        raise BadText(1)
    letters = first[1]
    moves = []
    yes = []
    for room, row in enumerate(rows[1:]):
        words = row.split(" ")
        if not is_room_row(words, room, len(letters)):
            raise BadText(room + 1)
        moves.append(tuple([int(word) for word in words[2:]]))
        yes.append(words[1] == "yes")
    machine = (letters, tuple(moves), tuple(yes))
    look_machine(machine)
    return machine


def is_room_row(words, room, signs):
    if len(words) != 2 + signs or words[1] not in ("yes", "no"):
        return False
    # Of told machines with more than 10,000 rooms the number itself may have too many figures.
    if words[0] != str(room) or not is_number(words[0]):
        return False
    return all([is_number(word) for word in words[2:]])


def is_number(word):
    if len(word) < 1 or len(word) > 4:
        return False
    if len(word) > 1 and word[0] == "0":
        return False
    return all(["0" <= sign <= "9" for sign in word])
