"""Letters with marks: for each of some names whether it is marked there."""


def marked_letters(letters, names):
    marks = [()]
    for name in names:
        marks = one_mark_more(marks)
    marked = []
    for letter in letters:
        marked.extend([(letter, truths) for truths in marks])
    return marked


def one_mark_more(marks):
    longer = []
    for truths in marks:
        longer.append(truths + (False,))
        longer.append(truths + (True,))
    return longer


# Of the names that are marked, those that aren't among the names asked for are passed over.
def marked_number(letters, names, letter, marked):
    number = letters.find(letter)
    for name in names:
        number = 2 * number + (1 if name in marked else 0)
    return number


def marked_text(letters, names, text, places):
    numbers = []
    for place, letter in enumerate(text):
        marked = [name for name in names if places[name] == place]
        numbers.append(marked_number(letters, names, letter, marked))
    return numbers
