"""Expressions: tuples of rows that tell texts, in which nothing is said "again and again"."""

from calmword.errors import BadRow
from calmword.rows import has_form, in_order, is_one_letter, is_row_ahead

FORMS = {
    "nothing": (), "blank": (), "letter": ("letter",), "not": ("row",),
    "or": ("row", "row"), "and": ("row", "row"), "behind": ("row", "row"),
}


def look_expression(letters, expression):
    if len(expression) == 0:
        raise BadRow(0)
    for at, row in enumerate(expression):
        if not is_expression_row(letters, row, at):
            raise BadRow(at)
    return True


def is_expression_row(letters, row, at):
    if len(row) == 0 or row[0] not in FORMS:
        return False
    return has_form(
        row, FORMS[row[0]],
        lambda kind, thing: is_one_letter(thing, letters) if kind == "letter" else is_row_ahead(thing, at))


# Each row is held against all parts of the text at once: for each place at which a part begins there is a number
# whose bits are the places at which one may end that the row tells. So shared rows are reckoned once.
def tells(letters, expression, text):
    reckoned = []
    for row in expression:
        reckoned.append([ends_told(row, reckoned, text, start) for start in range(len(text) + 1)])
    return has_bit(reckoned[-1][0], len(text))


def ends_told(row, reckoned, text, start):
    word = row[0]
    if word == "nothing":
        return 0
    if word == "blank":
        return 1 << start
    if word == "letter":
        return 1 << (start + 1) if text[start:start + 1] == row[1] else 0
    ends = reckoned[row[1]][start]
    if word == "not":
        return (1 << (len(text) + 1)) - (1 << start) - ends
    if word == "or":
        return ends | reckoned[row[2]][start]
    if word == "and":
        return ends & reckoned[row[2]][start]
    return ends_behind(ends, reckoned[row[2]])


def ends_behind(ends, starts):
    further = 0
    for place in range(len(starts)):
        if has_bit(ends, place):
            further = further | starts[place]
    return further


def has_bit(number, place):
    return ((number >> place) & 1) == 1


def tidied(expression):
    return in_order(expression)


def stand_number(expression):
    numbers = []
    for row in expression:
        numbers.append(stand_of_row(row, numbers))
    return numbers[-1]


def stand_of_row(row, numbers):
    word = row[0]
    if word == "nothing":
        return 0
    if word == "blank":
        return 1
    if word == "letter":
        return 2
    if word == "not":
        return numbers[row[1]]
    if word == "behind":
        return numbers[row[1]] + numbers[row[2]] + 1
    return max(numbers[row[1]], numbers[row[2]])
