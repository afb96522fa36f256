"""What sayings hold of: a text, and places of it that have names."""

from calmword.sayings import names_of_rows


# For each row it is told whether it holds, for all choices of places for its free names: so shared rows are
# reckoned once, and a name that is bound anew is one of its own.
def holds(saying, text, places):
    choices = Choices(len(text))
    names = names_of_rows(saying)
    truths = []
    for row, own in zip(saying, names):
        truths.append(row_truths(row, own, names, truths, text, choices))
    return truths[-1][choices.number_of([places[name] for name in names[-1]])]


def row_truths(row, own, names, truths, text, choices):
    word = row[0]
    if word == "yes":
        return [True]
    if word == "is":
        return [sign == row[2] for sign in text]
    if word == "ahead":
        return ahead_truths(own.index(row[1]), own.index(row[2]), choices.all_of(len(own)))
    if word == "not":
        return [not truth for truth in truths[row[1]]]
    if word in ("some", "each"):
        inner = widened(truths[row[2]], names[row[2]], own + (row[1],), choices)
        return bound_truths(word, inner, len(choices.all_of(len(own))), choices.many)
    left = widened(truths[row[1]], names[row[1]], own, choices)
    right = widened(truths[row[2]], names[row[2]], own, choices)
    if word == "and":
        return [one and other for one, other in zip(left, right)]
    return [one or other for one, other in zip(left, right)]


def ahead_truths(one, other, chosen):
    return [choice[one] < choice[other] for choice in chosen]


# The truths of a part, for all choices of places for more names than its own.
def widened(truths, names, more, choices):
    if names == more:
        return truths
    return [truths[number] for number in choices.numbers_within(names, more)]


# The bound name is the last one, so all its places stand side by side.
def bound_truths(word, inner, groups, many):
    shares = [inner[group * many:(group + 1) * many] for group in range(groups)]
    if word == "some":
        return [any(share) for share in shares]
    return [all(share) for share in shares]


class Choices:
    # many is how many places the text has; known keeps what numbers_within told.
    def __init__(self, many):
        self.many = many
        self.known = {}

    # All choices of a place for each of so many names, in the order of their numbers.
    def all_of(self, names):
        chosen = [()]
        for name in range(names):
            chosen = one_place_more(chosen, self.many)
        return chosen

    def number_of(self, choice):
        number = 0
        for place in choice:
            number = number * self.many + place
        return number

    # For each choice for more names the number of the choice for those among them.
    def numbers_within(self, names, more):
        if (names, more) not in self.known:
            spots = [more.index(name) for name in names]
            chosen = [[choice[spot] for spot in spots] for choice in self.all_of(len(more))]
            self.known[(names, more)] = [self.number_of(choice) for choice in chosen]
        return self.known[(names, more)]


def one_place_more(chosen, many):
    longer = []
    for choice in chosen:
        for place in range(many):
            longer.append(choice + (place,))
    return longer
