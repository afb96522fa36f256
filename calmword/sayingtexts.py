"""Sayings written as texts, and read from them."""

from calmword.errors import BadText
from calmword.rows import in_order
from calmword.sayings import is_name
from calmword.written import written


def show_saying(saying):
    return written(saying, pieces_of)


def pieces_of(row):
    word = row[0]
    if word == "yes":
        return ["yes"]
    if word == "is":
        return [row[1], " is ", row[2]]
    if word == "ahead":
        return [row[1], " < ", row[2]]
    if word == "not":
        return ["not ", row[1]]
    if word in ("and", "or"):
        return ["(", row[1], f" {word} ", row[2], ")"]
    return [f"{word} ", row[1], " ", row[2]]


def read_saying(text):
    reading = SayingReading(words_of(text))
    number = None
    while number is None:
        number = reading.close(reading.begin())
    reading.end()
    return in_order(tuple(reading.rows))


# A bracket is a word by itself, whatever stands beside it.
def words_of(text):
    parted = text.replace("(", " ( ").replace(")", " ) ")
    return [word for word in parted.split(" ") if word != ""]


def is_small_letter(word):
    return len(word) == 1 and "a" <= word <= "z"


class SayingReading:
    # waiting holds beginnings of rows, the last part of which isn't read yet, and a bracket where the first of two
    # isn't. At each word it is plain what may stand there, and what stands there can go on to a saying.
    def __init__(self, words):
        self.words = words
        self.place = 0
        self.rows = []
        self.waiting = []

    # The next word, which must be one that fits.
    def take(self, fits):
        if self.place == len(self.words) or not fits(self.words[self.place]):
            raise BadText(self.place)
        self.place += 1
        return self.words[self.place - 1]

    # Reads on to the end of the first row that has no parts, and tells its number.
    def begin(self):
        while True:
            word = self.take(begins_saying)
            if word in ("some", "each"):
                self.waiting.append((word, self.take(is_name)))
            elif word in ("not", "("):
                self.waiting.append((word,))
            elif word == "yes":
                return self.put_row((word,))
            else:
                return self.put_row(self.row_of_name(word))

    def row_of_name(self, name):
        if self.take(lambda word: word in ("is", "<")) == "is":
            return ("is", name, self.take(is_small_letter))
        return ("ahead", name, self.take(is_name))

    # The row is the last part of what waits; told is the number of the whole saying, or None where a second part is
    # due.
    def close(self, number):
        while self.waiting:
            begun = self.waiting.pop()
            if begun == ("(",):
                self.waiting.append((self.take(lambda word: word in ("and", "or")), number))
                return None
            if begun[0] in ("and", "or"):
                self.take(lambda word: word == ")")
            number = self.put_row(begun + (number,))
        return number

    def end(self):
        if self.place < len(self.words):
            raise BadText(self.place)

    def put_row(self, row):
        self.rows.append(row)
        return len(self.rows) - 1


def begins_saying(word):
    return word in ("yes", "not", "(", "some", "each") or is_name(word)
