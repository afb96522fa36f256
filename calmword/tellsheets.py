"""Sheets on which the rows of an expression are put; of rows that tell the same texts the first one stands for all."""

from calmword.expressions import tidied
from calmword.made import machine_of_row


class TellSheet:
    # nothing and every are the numbers of rows that tell no text and all texts, letters those of rows of one letter.
    def __init__(self, letters):
        self.signs = letters
        self.rows = []
        self.machines = []
        self.numbers = {}
        self.nothing = self.put_row(("nothing",))
        self.every = self.no(self.nothing)
        self.put_row(("blank",))
        self.letters = [self.put_row(("letter", letter)) for letter in letters]
        # Put here ahead of longer rows that would tell the same.
        for number in self.letters:
            self.behind(self.every, number)

    # There is just one least machine of the same texts, so it tells which rows tell the same.
    def put_row(self, row):
        machine = machine_of_row(self.signs, row, self.machines, None)
        if machine not in self.numbers:
            self.numbers[machine] = len(self.rows)
            self.rows.append(row)
            self.machines.append(machine)
        return self.numbers[machine]

    def no(self, number):
        return self.put_row(("not", number))

    def both(self, one, other):
        return self.put_row(("and", one, other))

    def either(self, one, other):
        return self.put_row(("or", one, other))

    def behind(self, one, other):
        return self.put_row(("behind", one, other))

    def any_of(self, numbers):
        found = self.nothing
        for number in numbers:
            found = self.either(found, number)
        return found

    def expression(self, number):
        return tidied(tuple(self.rows[:number + 1]))
