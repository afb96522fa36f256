"""Least machines, and the first text that tells two rooms apart."""

from calmword.walks import come_up


def least(machine):
    lean = least_from(machine[1], machine[2], 0)
    return (machine[0], lean[0], lean[1])


# Moves and yes of the least machine, as it would be if it began in the first room handed in. The signs are as many
# as a room has moves, so they may also be marked letters.
def least_from(moves, yes, first):
    came = come_up(first, len(moves[0]), lambda room, sign: moves[room][sign])
    answers = [yes[room] for room in came[0]]
    return merged(came[1], answers, groups_of_rooms(came[1], answers))


# The rooms are numbered as they come up, so the groups come up in the order of their first rooms.
def merged(moves, yes, groups):
    numbers = {}
    first_rooms = []
    for room, group in enumerate(groups):
        if group not in numbers:
            numbers[group] = len(first_rooms)
            first_rooms.append(room)
    rows = []
    for room in first_rooms:
        rows.append(tuple([numbers[groups[target]] for target in moves[room]]))
    return (tuple(rows), tuple([yes[room] for room in first_rooms]))


# For each room the number of its group; rooms are in one group where no text tells them apart (Hopcroft's way:
# parts are cut by what leads into a part that is due, and of each cut only the smaller share falls due anew).
def groups_of_rooms(moves, yes):
    signs = list(range(len(moves[0])))
    groups = [0 for room in moves]
    parts = [dict([(room, True) for room in range(len(moves))])]
    cut(parts, groups, 0, [room for room in range(len(yes)) if yes[room]])
    sources = [led_from(moves, sign) for sign in signs]
    due = []
    for part in range(len(parts)):
        due.extend([(part, sign) for sign in signs])
    while due:
        task = due.pop()
        leading = leading_into(parts[task[0]], sources[task[1]], groups)
        for part in leading:
            if cut(parts, groups, part, leading[part]):
                due.extend([(len(parts) - 1, sign) for sign in signs])
    return groups


# For each room the rooms from which the sign leads to it.
def led_from(moves, sign):
    sources = [[] for room in moves]
    for room, row in enumerate(moves):
        sources[row[sign]].append(room)
    return sources


# By their groups, the rooms from which a sign leads into the part.
def leading_into(part, sources, groups):
    leading = {}
    for room in part:
        for source in sources[room]:
            leading.setdefault(groups[source], []).append(source)
    return leading


# The smaller share gets the new number: where the old number is still due, the greater share stays due by it.
def cut(parts, groups, number, share):
    part = parts[number]
    if len(share) == 0 or len(share) == len(part):
        return False
    if 2 * len(share) > len(part):
        inside = dict([(room, True) for room in share])
        share = [room for room in part if room not in inside]
    for room in share:
        part.pop(room)
        groups[room] = len(parts)
    parts.append(dict([(room, True) for room in share]))
    return True


# Pairs are walked in the order of the texts that lead to them. One whose rooms are joined already by pairs ahead
# of it is passed over: whatever text tells it apart tells one of those apart, and that one's text goes first.
def apart(machine, one, other):
    letters = machine[0]
    moves = machine[1]
    yes = machine[2]
    if yes[one] != yes[other]:
        return ""
    heads = list(range(len(moves)))
    due = [(one, other, "")]
    place = 0
    while place < len(due):
        pair = due[place]
        place += 1
        if not join_rooms(heads, pair[0], pair[1]):
            continue
        for sign, letter in enumerate(letters):
            left = moves[pair[0]][sign]
            right = moves[pair[1]][sign]
            if yes[left] != yes[right]:
                return pair[2] + letter
            due.append((left, right, pair[2] + letter))
    return None


def join_rooms(heads, one, other):
    left = head_of(heads, one)
    right = head_of(heads, other)
    heads[left] = right
    return left != right


# On the way each second room is hung higher, so that later ways are short.
def head_of(heads, room):
    while heads[room] != room:
        heads[room] = heads[heads[room]]
        room = heads[room]
    return room
