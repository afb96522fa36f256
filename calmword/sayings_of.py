"""Sayings of expressions: closed ones, in which three names are enough."""

from calmword.saysheets import NO, YES, SaySheet

NAMES = ("x", "y", "z")


# A span (left, right) is all places behind left's up to right's own; where left is None from the first place on,
# where right is None to the last one. Row by row it is said, for each span, that what stands there is told by the
# row, as far as the span has a place; whether the row tells the text without signs is known ahead.
def saying_of(letters, expression):
    sheet = SaySheet()
    spans = all_spans()
    said = []
    blanks = []
    for row in expression:
        said.append(dict([(span, said_of_row(sheet, row, span, said, blanks)) for span in spans]))
        blanks.append(tells_blank(row, blanks))
    return sheet.saying(of_all_texts(sheet, said[-1][(None, None)], blanks[-1]))


def all_spans():
    spans = []
    for left in (None,) + NAMES:
        spans.extend([(left, right) for right in (None,) + NAMES if left is None or left != right])
    return spans


def of_all_texts(sheet, number, blank):
    some_place = sheet.some(NAMES[0], YES)
    if blank:
        return sheet.either(sheet.no(some_place), number)
    return sheet.both(some_place, number)


def tells_blank(row, blanks):
    word = row[0]
    if word in ("nothing", "blank", "letter"):
        return word == "blank"
    if word == "not":
        return not blanks[row[1]]
    if word == "or":
        return blanks[row[1]] or blanks[row[2]]
    return blanks[row[1]] and blanks[row[2]]


def said_of_row(sheet, row, span, said, blanks):
    word = row[0]
    if word in ("nothing", "blank"):
        return NO
    if word == "letter":
        return said_of_letter(sheet, row[1], span)
    if word == "not":
        return sheet.no(said[row[1]][span])
    if word == "or":
        return sheet.either(said[row[1]][span], said[row[2]][span])
    if word == "and":
        return sheet.both(said[row[1]][span], said[row[2]][span])
    return said_of_behind(sheet, row, span, said, blanks)


def said_of_letter(sheet, letter, span):
    right = span[1]
    name = free_name(span)
    begun = behind_left(sheet, span, name)
    if right is not None:
        more = sheet.some(name, sheet.both(begun, sheet.put_row(("ahead", name, right))))
        return sheet.both(sheet.put_row(("is", right, letter)), sheet.no(more))
    one = sheet.some(name, sheet.both(begun, sheet.put_row(("is", name, letter))))
    more = sheet.some(name, sheet.both(begun, goes_on(sheet, span, name)))
    return sheet.both(one, sheet.no(more))


# The span is cut behind a place that isn't its last one, so that both shares have a place; or one of them has none,
# and what stands in the whole span is told by the other part.
def said_of_behind(sheet, row, span, said, blanks):
    name = free_name(span)
    first = sheet.both(behind_left(sheet, span, name), said[row[1]][(span[0], name)])
    second = said[row[2]][(name, span[1])]
    if span[1] is None and second == YES and blanks[row[2]]:
        # All that may follow is told: the cut may stand behind the last place, too.
        cut = sheet.some(name, first)
    else:
        cut = sheet.some(name, sheet.both(first, sheet.both(goes_on(sheet, span, name), second)))
        if blanks[row[2]]:
            cut = sheet.either(cut, said[row[1]][span])
    if blanks[row[1]]:
        cut = sheet.either(cut, said[row[2]][span])
    return cut


def free_name(span):
    return [name for name in NAMES if name not in span][0]


def behind_left(sheet, span, name):
    if span[0] is None:
        return YES
    return sheet.put_row(("ahead", span[0], name))


# The span has a place behind the name's. To its end none but the name matters any more, so any other may be bound.
def goes_on(sheet, span, name):
    if span[1] is not None:
        return sheet.put_row(("ahead", name, span[1]))
    other = free_name((name, None))
    return sheet.some(other, sheet.put_row(("ahead", name, other)))
