"""Machines for the tests, and plain ways to reckon what the program should tell."""

import copy
import itertools
import random

# Texts over a, b: with an even number of a; ending in ab; only the text ab; none; all.
EVEN_A = ("ab", ((1, 0), (0, 1)), (True, False))
ENDS_AB = ("ab", ((1, 0), (1, 2), (1, 0)), (False, False, True))
JUST_AB = ("ab", ((1, 3), (3, 2), (3, 3), (3, 3)), (False, False, True, False))
NONE = ("ab", ((0, 0),), (False,))
EVERY = ("ab", ((0, 0),), (True,))


def texts_to(letters, most):
    """All texts with at most so many signs, in their order."""
    return ["".join(signs) for n in range(most + 1) for signs in itertools.product(letters, repeat=n)]


def read_plainly(machine, text, room=0):
    letters, moves, yes = machine
    for sign in text:
        room = moves[room][letters.index(sign)]
    return yes[room]


def texts_of(machine, most, room=0):
    """The texts with at most so many signs that lead from the room to yes, in order."""
    return [text for text in texts_to(machine[0], most) if read_plainly(machine, text, room)]


def made_machine(chance, letters, rooms):
    moves = tuple(tuple(chance.randrange(rooms) for _ in letters) for _ in range(rooms))
    return (letters, moves, tuple(chance.random() < 0.4 for _ in range(rooms)))


def made_machines(seed, many, most_rooms=6, letters=("a", "ba", "ab", "xcm", "dbca")):
    """The same machines each time, of one room or more, over letters in several orders."""
    chance = random.Random(seed)
    return [made_machine(chance, chance.choice(letters), chance.randint(1, most_rooms)) for _ in range(many)]


def made_pairs(seed, many, rooms):
    """Pairs of machines of the same letters."""
    chance = random.Random(seed)
    pairs = []
    for _ in range(many):
        letters = chance.choice(("a", "ba", "cab"))
        pairs.append([made_machine(chance, letters, chance.randint(1, rooms)) for _ in range(2)])
    return pairs


def ring(rooms, yes_rooms=(0,), letters="a"):
    """Every letter leads one room on, the last room's to room 0."""
    moves = tuple(((room + 1) % rooms,) * len(letters) for room in range(rooms))
    return (letters, moves, tuple(room in yes_rooms for room in range(rooms)))


def chain(rooms, yes_rooms, letters="a"):
    """Every letter leads one room on; the last room leads to itself."""
    moves = tuple((min(room + 1, rooms - 1),) * len(letters) for room in range(rooms))
    return (letters, moves, tuple(room in yes_rooms for room in range(rooms)))


def first_apart(one, other, left=0, right=0):
    """The first text that leads to yes from just one of two rooms of two machines, or None: all pairs are walked."""
    due = [(left, right, "")]
    seen = {(left, right)}
    for left, right, text in due:
        if one[2][left] != other[2][right]:
            return text
        for letter, pair in zip(one[0], zip(one[1][left], other[1][right])):
            if pair not in seen:
                seen.add(pair)
                due.append(pair + (text + letter,))
    return None


def rooms_come_up(machine):
    """The rooms that come up from room 0 on, in order."""
    rooms = [0]
    for room in rooms:
        rooms.extend(target for target in dict.fromkeys(machine[1][room]) if target not in rooms)
    return rooms


def least_plainly(machine):
    """The least machine, by holding each room that comes up against each kept ahead of it."""
    letters, moves, yes = machine
    kept = []
    number = {}
    for room in rooms_come_up(machine):
        same = [other for other in kept if first_apart(machine, machine, other, room) is None]
        if not same:
            kept.append(room)
        number[room] = kept.index((same or [room])[0])
    rows = tuple(tuple(number[target] for target in moves[room]) for room in kept)
    return (letters, rows, tuple(yes[room] for room in kept))


def walked(first, signs, step):
    """How many rooms come up from the first one on."""
    seen = {first}
    due = [first]
    for room in due:
        for target in [step(room, sign) for sign in range(signs)]:
            if target not in seen:
                seen.add(target)
                due.append(target)
    return len(seen)


def both_rooms(one, other):
    """How many pairs come up of the least machines."""
    left, right = least_plainly(one), least_plainly(other)
    return walked((0, 0), len(one[0]), lambda pair, sign: (left[1][pair[0]][sign], right[1][pair[1]][sign]))


def behind_rooms(one, other):
    """How many rooms come up by point 12 where the one's texts go ahead of the other's."""
    left, right = least_plainly(one), least_plainly(other)

    def step(room, sign):
        first = left[1][room[0]][sign]
        second = {right[1][number][sign] for number in room[1]} | ({0} if left[2][first] else set())
        return first, frozenset(second)

    return walked((0, frozenset({0} if left[2][0] else ())), len(one[0]), step)


def about_rooms(machine):
    """How many rooms come up by point 12 where texts are turned about."""
    letters, moves, yes = least_plainly(machine)
    first = frozenset(room for room in range(len(yes)) if yes[room])
    return walked(first, len(letters), lambda rooms, sign: frozenset(
        room for room in range(len(moves)) if moves[room][sign] in rooms))


def blown_up(machine, seed, rooms):
    """A machine of more rooms that lets by the same texts, its rooms mixed up, some of which don't come up."""
    chance = random.Random(seed)
    letters, moves, yes = machine
    of_room = list(range(len(moves))) + [chance.randrange(len(moves)) for _ in range(rooms - len(moves))]
    tail = of_room[1:]
    chance.shuffle(tail)
    of_room = [0] + tail
    twins = [[room for room in range(rooms) if of_room[room] == old] for old in range(len(moves))]
    rows = tuple(tuple(chance.choice(twins[target]) for target in moves[old]) for old in of_room)
    return (letters, rows, tuple(yes[old] for old in of_room))


def deed_plainly(machine, text):
    """What the text does to the rooms of a machine that is the least one."""
    letters, moves, _ = machine
    rooms = []
    for room in range(len(moves)):
        for sign in text:
            room = moves[room][letters.index(sign)]
        rooms.append(room)
    return tuple(rooms)


def stand_plainly(deed):
    """All times up to twice as many as rooms are tried."""
    powers = [deed]
    for _ in range(2 * len(deed) + 1):
        powers.append(tuple(deed[room] for room in powers[-1]))
    stands = [n + 1 for n in range(len(powers) - 1) if powers[n] == powers[n + 1]]
    return stands[0] if stands else None


def lines(sizes, sink=False):
    """Each letter leads from room 0 into a line of its own, through which that letter alone leads; a last letter, if
    asked for, leads from everywhere to a room from which no text leads to yes."""
    letters = "abcd"[:len(sizes) + (1 if sink else 0)]
    starts = [1 + sum(sizes[:spot]) for spot in range(len(sizes))]
    rooms = 1 + sum(sizes)
    moves = [list(starts)]
    yes = [False]
    for spot, size in enumerate(sizes):
        for step in range(size):
            row = [starts[spot] + step] * len(sizes)
            row[spot] = starts[spot] + min(step + 1, size - 1)
            moves.append(row)
            yes.append(step == size - 1)
    if sink:
        moves = [row + [rooms] for row in moves] + [[rooms] * len(letters)]
        yes.append(False)
    return (letters, tuple(tuple(row) for row in moves), tuple(yes))


# Its least machine has just 2,000 deeds; with one more letter, to a room for good, 2,001.
JUST_2000 = lines((4, 13, 13))
JUST_2001 = lines((4, 13, 13), sink=True)
# Two letters that change rooms of a ring about make very many deeds.
VERY_MANY = ("ab", tuple(((room + 1) % 9, (1, 0)[room] if room < 2 else room) for room in range(9)),
             (True,) + (False,) * 8)


def spoil(answer):
    """Changes whatever can be changed in an answer."""
    if isinstance(answer, list):
        answer.reverse()
        answer.append("spoilt")
    elif isinstance(answer, tuple):
        for part in answer:
            spoil(part)


def holds_to_point_2(test, function, *things):
    """What is handed in stays as it was; answers are new ones and stay the same. Tells the answer."""
    kept = copy.deepcopy(things)
    first = function(*things)
    test.assertEqual(things, kept)
    expected = copy.deepcopy(first)
    spoil(first)
    test.assertEqual(things, kept)
    second = function(*things)
    test.assertEqual(second, expected)
    if isinstance(second, list):
        test.assertIsNot(second, first)
    spoil(second)
    test.assertEqual(function(*copy.deepcopy(things)), expected)
    return expected


def refused(test, error, function, *things):
    """The refusal, of just this class; what is handed in stays as it was, and it is refused each time."""
    kept = copy.deepcopy(things)
    seen = []
    for _ in range(2):
        with test.assertRaises(error) as caught:
            function(*things)
        test.assertIs(type(caught.exception), error)
        test.assertEqual(things, kept)
        seen.append(caught.exception)
    test.assertEqual(vars(seen[0]), vars(seen[1]))
    return seen[0]
