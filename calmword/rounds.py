"""Two texts told apart by closed sayings of at most a depth, or told as alike for all of them."""

from calmword.saysheets import YES, SaySheet

# By how many places are chosen already, the name of the one that is chosen next.
NAMES = ("x", "y", "z", "u", "v", "w")


def alike_up_to(one, other, depth):
    rounds = Rounds()
    return rounds.kind_of((one, ()), depth) == rounds.kind_of((other, ()), depth)


def saying_apart(one, other, depth):
    rounds = Rounds()
    if rounds.kind_of((one, ()), depth) == rounds.kind_of((other, ()), depth):
        return None
    return rounds.sheet.saying(rounds.apart_by((one, ()), (other, ()), depth))


# Holds texts with chosen places, tuples (text, places), against one another. For each depth they are of a kind: of all
# that are of one kind the same sayings of at most that depth hold, the chosen places having names.
class Rounds:
    # known keeps the kinds that were asked for, kinds a number for each.
    def __init__(self):
        self.sheet = SaySheet()
        self.known = {}
        self.kinds = {}

    def kind_of(self, chosen, depth):
        if (chosen, depth) not in self.known:
            marks = plain_marks(chosen) if depth == 0 else tuple(sorted(set(self.further_kinds(chosen, depth))))
            self.known[(chosen, depth)] = self.kinds.setdefault((depth, marks), len(self.kinds))
        return self.known[(chosen, depth)]

    # For each place the kind that comes where it is chosen, too.
    def further_kinds(self, chosen, depth):
        return [self.kind_of(further, depth - 1) for further in one_place_more(chosen)]

    # The number of a row of at most the depth that holds of the one and not of the other, which are of two kinds.
    def apart_by(self, one, other, depth):
        least = min([rounds for rounds in range(depth + 1) if self.kind_of(one, rounds) != self.kind_of(other, rounds)])
        if least == 0:
            return self.apart_plainly(one, other)
        found = self.apart_by_some(one, other, least)
        if found is None:
            return self.sheet.no(self.apart_by_some(other, one, least))
        return found

    # By a place of the one, if there is such, with which no place of the other can keep up.
    def apart_by_some(self, one, other, depth):
        kinds = dict(list(zip(self.further_kinds(other, depth), one_place_more(other))))
        for further in one_place_more(one):
            if self.kind_of(further, depth - 1) not in kinds:
                numbers = sorted(set([self.apart_by(further, kinds[kind], depth - 1) for kind in kinds]))
                return self.sheet.some(NAMES[len(one[1])], self.all_of_them(numbers))
        return None

    def all_of_them(self, numbers):
        whole = YES
        for number in numbers:
            whole = self.sheet.both(whole, number)
        return whole

    def apart_plainly(self, one, other):
        for name, place, its in zip(NAMES, one[1], other[1]):
            if one[0][place] != other[0][its]:
                return self.sheet.put_row(("is", name, one[0][place]))
        for left in range(len(one[1])):
            for right in range(len(one[1])):
                ahead = one[1][left] < one[1][right]
                if ahead != (other[1][left] < other[1][right]):
                    number = self.sheet.put_row(("ahead", NAMES[left], NAMES[right]))
                    return number if ahead else self.sheet.no(number)


def one_place_more(chosen):
    return [(chosen[0], chosen[1] + (place,)) for place in range(len(chosen[0]))]


def plain_marks(chosen):
    letters = tuple([chosen[0][place] for place in chosen[1]])
    return (letters, tuple([tuple([one < other for other in chosen[1]]) for one in chosen[1]]))
