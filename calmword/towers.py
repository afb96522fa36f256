"""Towers of a calm machine: sets of rooms within one another, from all rooms down to one."""

from calmword.walks import come_up


# Sets of rooms are rising tuples: those to which texts lead from all rooms together, and those of one room.
def sets_of_rooms(moves):
    rooms = tuple(range(len(moves)))
    found = come_up(rooms, len(moves[0]), lambda inner, sign: led_on(moves, inner, sign))[0]
    return found + [(room,) for room in rooms if (room,) not in found]


def led_on(moves, rooms, sign):
    return tuple(sorted(set([moves[room][sign] for room in rooms])))


def within(rooms, others):
    return all([room in others for room in rooms])


# By set, all sets that lie within one to which some text leads from it.
def sets_below(moves, sets):
    below = {}
    for rooms in sets:
        came = come_up(rooms, len(moves[0]), lambda inner, sign: led_on(moves, inner, sign))[0]
        below[rooms] = [inner for inner in sets if any([within(inner, reached) for reached in came])]
    return below


# Those below one another are of one height, what lies below without that is lower, one room alone has none. Of what
# is lower fewer sets lie below, so its height is known ahead.
def heights_of(below):
    heights = {}
    for rooms in sorted(below, key=lambda inner: len(below[inner])):
        lower = [heights[inner] for inner in below[rooms] if rooms not in below[inner]]
        heights[rooms] = 0 if len(rooms) == 1 else 1 + max(lower)
    return heights


# The greatest sets that lie within a set and aren't the whole of it.
def bricks_of(rooms, sets):
    inner = [part for part in sets if part != rooms and within(part, rooms)]
    return [part for part in inner if not any([part != other and within(part, other) for other in inner])]


# By set of two rooms or more a tuple: the first set of those below one another, and the rooms to which that one's are
# led in order. The machine is calm, so there is just one way in which they can be led there.
def lines_of(moves, below):
    lines = {}
    for head in below:
        if len(head) > 1 and head not in lines:
            mates = [rooms for rooms in below[head] if head in below[rooms]]
            lines.update(lines_from(moves, head, mates))
    return lines


def lines_from(moves, head, mates):
    lines = {head: (head, head)}
    due = [head]
    while due:
        line = due.pop()
        for sign in range(len(moves[0])):
            further = tuple([moves[room][sign] for room in line])
            rooms = tuple(sorted(set(further)))
            if rooms in mates and rooms not in lines:
                lines[rooms] = (head, further)
                due.append(further)
    return lines


# A tower is a tuple of sets: all rooms, then of each set a brick, down to one room. A top of a tower, by a height, is
# its sets down to the first that is at most so high. Where a letter leads is chosen so that a top leads to a top,
# whatever stands below it, and that each brick is either the one to which the brick of the same height is led, or
# one that the sets above it alone tell: then it is set anew.
class Towers:
    def __init__(self, moves):
        sets = sets_of_rooms(moves)
        below = sets_below(moves, sets)
        self.moves = moves
        self.whole = sets[0]
        self.heights = heights_of(below)
        self.bricks = dict([(rooms, bricks_of(rooms, sets)) for rooms in sets])
        self.lines = lines_of(moves, below)

    # The first brick of a set in which all these rooms lie.
    def brick_round(self, rooms, inner):
        return [brick for brick in self.bricks[rooms] if within(inner, brick)][0]

    def tower_of(self, room):
        tower = [self.whole]
        while len(tower[-1]) > 1:
            tower.append(self.brick_round(tower[-1], (room,)))
        return tuple(tower)

    def top(self, tower, height):
        many = 1
        while self.heights[tower[many - 1]] > height:
            many += 1
        return tower[:many]

    # The top, by the height, of the tower to which a letter leads; of the tower no more than its own top is asked for.
    def top_led_on(self, tower, sign, height):
        led = [self.whole]
        while self.heights[led[-1]] > height:
            top = self.top(tower, self.heights[led[-1]])
            inner = led_on(self.moves, top[-1], sign)
            if inner == led[-1]:
                led.append(led_on(self.moves, tower[len(top)], sign))
            else:
                led.append(self.brick_round(led[-1], inner))
        return tuple(led)

    # Bricks of sets below one another have the same mark where each is led to the other.
    def mark(self, rooms, brick):
        line = self.lines[rooms]
        return (line[0], tuple([room in brick for room in line[1]]))

    # Of the top of a tower a tuple: the top to which a letter leads, and the mark of the brick that is set anew below
    # that, or None where none is: because it is led on, or because the last set isn't so high.
    def event(self, top, sign, height):
        target = self.top_led_on(top, sign, height)
        inner = led_on(self.moves, top[-1], sign)
        if self.heights[target[-1]] < height or inner == target[-1]:
            return (target, None)
        return (target, self.mark(target[-1], self.brick_round(target[-1], inner)))
