"""Two machines held against one another by pairs of their rooms."""

from calmword.errors import OtherLetters
from calmword.least import apart
from calmword.walks import come_up


def compared(one, other):
    look_same_letters(one, other)
    text = apart(side_by_side(one, other), 0, len(one[1]))
    if text is not None:
        return ("part", text)
    return ("alike", sorted(walked_pairs(one, other)[0]))


def look_same_letters(one, other):
    if one[0] != other[0]:
        raise OtherLetters()


# One machine with the rooms of both, the other's behind the one's.
def side_by_side(one, other):
    many = len(one[1])
    moves = list(one[1])
    for row in other[1]:
        moves.append(tuple([many + target for target in row]))
    return (one[0], moves, list(one[2]) + list(other[2]))


def walked_pairs(one, other, most=None):
    return come_up((0, 0), len(one[0]), lambda pair, sign: (one[1][pair[0]][sign], other[1][pair[1]][sign]), most)


def pairs_hold(one, other, pairs):
    look_same_letters(one, other)
    known = dict([((left, right), True) for left, right in pairs])
    if (0, 0) not in known:
        return False
    return all([pair_holds(one, other, pair, known) for pair in known])


def pair_holds(one, other, pair, known):
    left = pair[0]
    right = pair[1]
    if not (0 <= left < len(one[1]) and 0 <= right < len(other[1])):
        return False
    if one[2][left] != other[2][right]:
        return False
    return all([targets in known for targets in zip(one[1][left], other[1][right])])
