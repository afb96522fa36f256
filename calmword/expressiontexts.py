"""Expressions written as texts, and read from them."""

from calmword.errors import BadText
from calmword.expressions import tidied
from calmword.written import written

# How much each word binds; an open bracket binds nothing of what stands ahead of it.
BINDS = {"(": -1, "or": 0, "and": 1, "behind": 2, "not": 3, "letter": 4, "blank": 4, "nothing": 4}
SIGNS = {"or": "|", "and": "&", "behind": ""}
WORDS = {"|": "or", "&": "and"}


def show_expression(expression):
    return written(expression, lambda row: pieces_of(expression, row))


def pieces_of(expression, row):
    word = row[0]
    if word == "letter":
        return [row[1]]
    if word == "blank":
        return ["."]
    if word == "nothing":
        return ["0"]
    binds = BINDS[word]
    if word == "not":
        return ["-"] + bound_part(expression, row[1], binds)
    # What binds as much goes from the left, so at the right it stands in brackets.
    return bound_part(expression, row[1], binds) + [SIGNS[word]] + bound_part(expression, row[2], binds + 1)


def bound_part(expression, number, binds):
    if BINDS[expression[number][0]] < binds:
        return ["(", number, ")"]
    return [number]


# Each beginning in which every sign fits can go on to a text of an expression.
def read_expression(text):
    reading = Reading()
    for place, sign in enumerate(text):
        if not reading.fits(sign):
            raise BadText(place)
        reading.take(sign)
    if reading.due or reading.opened > 0:
        raise BadText(len(text))
    reading.bind(BINDS["or"])
    return tidied(tuple(reading.rows))


class Reading:
    # ready holds the numbers of rows that are no parts yet, waiting the words whose last part isn't whole yet;
    # due tells whether a part must begin at the next sign.
    def __init__(self):
        self.rows = []
        self.ready = []
        self.waiting = []
        self.opened = 0
        self.due = True

    def fits(self, sign):
        if sign in WORDS:
            return not self.due
        if sign == ")":
            return not self.due and self.opened > 0
        return sign in ("-", "(", ".", "0") or "a" <= sign <= "z"

    def take(self, sign):
        if sign == ")":
            self.bind(BINDS["or"])
            self.waiting.pop()
            self.opened -= 1
        elif sign in WORDS:
            self.wait_for_second(WORDS[sign])
        else:
            if not self.due:
                self.wait_for_second("behind")
            self.begin_part(sign)

    def wait_for_second(self, word):
        self.bind(BINDS[word])
        self.waiting.append(word)
        self.due = True

    def begin_part(self, sign):
        if sign == "-":
            self.waiting.append("not")
        elif sign == "(":
            self.waiting.append("(")
            self.opened += 1
        else:
            self.put_row(row_of_sign(sign))
            self.due = False

    # What waits and binds at least so much has all its parts now.
    def bind(self, binds):
        while self.waiting and BINDS[self.waiting[-1]] >= binds:
            word = self.waiting.pop()
            last = self.ready.pop()
            if word == "not":
                self.put_row((word, last))
            else:
                self.put_row((word, self.ready.pop(), last))

    def put_row(self, row):
        self.ready.append(len(self.rows))
        self.rows.append(row)


def row_of_sign(sign):
    if sign == ".":
        return ("blank",)
    if sign == "0":
        return ("nothing",)
    return ("letter", sign)
