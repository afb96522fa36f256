"""Rows that rest on one another, written as the one text that the last of them is put together to."""

from calmword.errors import TooLong

MOST_SIGNS = 100000


# pieces(row) tells the row's text as a list of texts and numbers of rows ahead, in the places of which their texts
# stand.
def written(rows, pieces):
    if signs_of(rows, pieces) > MOST_SIGNS:
        raise TooLong()
    texts = []
    due = [len(rows) - 1]
    while due:
        piece = due.pop()
        if isinstance(piece, str):
            texts.append(piece)
        else:
            due.extend(list(reversed(pieces(rows[piece]))))
    return "".join(texts)


# Row by row, since put together the text may be without measure; what is too long stays just too long.
def signs_of(rows, pieces):
    counts = []
    for row in rows:
        count = sum([len(piece) if isinstance(piece, str) else counts[piece] for piece in pieces(row)])
        counts.append(min(count, MOST_SIGNS + 1))
    return counts[-1]
