"""Sheets on which the rows of a saying are put, none twice; what holds everywhere or nowhere is folded away."""

from calmword.rows import in_order

# The numbers of the first two rows of each sheet.
YES = 0
NO = 1


class SaySheet:
    def __init__(self):
        self.rows = []
        self.numbers = {}
        self.put_row(("yes",))
        self.put_row(("not", YES))

    def put_row(self, row):
        if row not in self.numbers:
            self.numbers[row] = len(self.rows)
            self.rows.append(row)
        return self.numbers[row]

    def no(self, number):
        row = self.rows[number]
        if row[0] == "not":
            return row[1]
        return self.put_row(("not", number))

    def both(self, one, other):
        return self.joined("and", one, other, YES, NO)

    def either(self, one, other):
        return self.joined("or", one, other, NO, YES)

    # Beside a part that is the idle one the other part decides; the strong one decides by itself.
    def joined(self, word, one, other, idle, strong):
        if one == strong or other == strong:
            return strong
        if one == idle or one == other:
            return other
        if other == idle:
            return one
        return self.put_row((word, min(one, other), max(one, other)))

    def some(self, name, number):
        if number == NO:
            return NO
        return self.put_row(("some", name, number))

    def saying(self, number):
        return in_order(tuple(self.rows[:number + 1]))
