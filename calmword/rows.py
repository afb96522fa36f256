"""Rows that rest on rows ahead of them, as expressions and sayings have them."""


# Whether a row's things, behind its word, are of the kinds of a form, as fits(kind, thing) tells.
def has_form(row, form, fits):
    if len(row) != 1 + len(form):
        return False
    return all([fits(kind, thing) for kind, thing in zip(form, row[1:])])


def is_row_ahead(thing, at):
    return isinstance(thing, int) and not isinstance(thing, bool) and 0 <= thing < at


def is_one_letter(thing, letters):
    return isinstance(thing, str) and len(thing) == 1 and thing in letters


# Numbers stand in a row only where it names rows ahead.
def parts_of(row):
    return [thing for thing in row if isinstance(thing, int)]


def with_parts(row, numbers):
    return tuple([numbers[thing] if isinstance(thing, int) else thing for thing in row])


# Just the rows on which the last one rests, none twice, each behind its parts, the first part's rows first. They
# are walked without a call within a call, since rows may rest on one another very deep.
def in_order(rows):
    heads = heads_of(rows)
    numbers = {}
    ordered = []
    due = [heads[-1]]
    while due:
        row = with_parts(rows[due[-1]], heads)
        lacking = [part for part in parts_of(row) if part not in numbers]
        if lacking:
            due.append(lacking[0])
            continue
        numbers[due.pop()] = len(ordered)
        ordered.append(with_parts(row, numbers))
    return tuple(ordered)


# For each row the first one that is the same, their parts being one each.
def heads_of(rows):
    heads = []
    first = {}
    for at, row in enumerate(rows):
        heads.append(first.setdefault(with_parts(row, heads), at))
    return heads
