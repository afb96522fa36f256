"""The first texts that a machine lets by, how many there are, and how long the longest is."""

from calmword.least import least


def first_texts(machine, many):
    lean = least(machine)
    end = longest(lean)
    # At k stands, for each room, whether some text with just k signs leads from it to yes.
    reaching = [lean[2]]
    texts = []
    while len(texts) < many and (end is None or len(reaching) - 1 <= end):
        texts.extend(texts_with_signs(lean, reaching, many - len(texts)))
        reaching.append(one_sign_ahead(lean[1], reaching[-1]))
    return texts


def one_sign_ahead(moves, reaches):
    return [any([reaches[target] for target in row]) for row in moves]


# Only beginnings that some due text has are kept, so no more of them are needed than texts.
def texts_with_signs(machine, reaching, many):
    begun = [("", 0)] if reaching[-1][0] else []
    for signs in range(len(reaching) - 2, -1, -1):
        begun = longer_beginnings(machine, begun, reaching[signs])[:many]
    return [text for text, room in begun]


def longer_beginnings(machine, begun, reaches):
    letters = machine[0]
    moves = machine[1]
    longer = []
    for text, room in begun:
        for letter, target in zip(letters, moves[room]):
            if reaches[target]:
                longer.append((text + letter, target))
    return longer


def how_many(machine, n):
    moves = machine[1]
    yes = machine[2]
    # For each room how many texts lead to it from room 0.
    counts = [0 for room in moves]
    counts[0] = 1
    for signs in range(n):
        counts = counts_one_sign_on(moves, counts)
    return sum([count for room, count in enumerate(counts) if yes[room]])


def counts_one_sign_on(moves, counts):
    more = [0 for room in moves]
    for room, row in enumerate(moves):
        for target in row:
            more[target] += counts[room]
    return more


# In the least machine each room comes up, and yes can be reached from all but one at most. So where a ring is
# left among those, texts go round it without end.
def longest(machine):
    lean = least(machine)
    ways = live_ways(lean)
    if 0 not in ways:
        return -1
    waiting = moves_into(ways)
    farthest = dict([(room, 0) for room in ways])
    done = [0] if waiting[0] == 0 else []
    place = 0
    while place < len(done):
        room = done[place]
        place += 1
        for target in ways[room]:
            farthest[target] = max(farthest[target], farthest[room] + 1)
            waiting[target] -= 1
            if waiting[target] == 0:
                done.append(target)
    if len(done) < len(ways):
        return None
    return max([farthest[room] for room in done])


# By room, the rooms to which letters lead, without the room of a least machine from which yes isn't reached.
def live_ways(machine):
    moves = machine[1]
    yes = machine[2]
    live = [yes[room] or any([target != room for target in row]) for room, row in enumerate(moves)]
    ways = {}
    for room, row in enumerate(moves):
        if live[room]:
            ways[room] = [target for target in row if live[target]]
    return ways


def moves_into(ways):
    counts = dict([(room, 0) for room in ways])
    for room in ways:
        for target in ways[room]:
            counts[target] += 1
    return counts
