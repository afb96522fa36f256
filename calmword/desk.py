"""A desk that keeps things by names and answers rows."""

from calmword.countings import counting
from calmword.deeds import deeds
from calmword.errors import BadLetters, NoLetter, NoName, NoRow, NotCalm, NotClosed, OtherLetters
from calmword.expressions import look_expression
from calmword.expressiontexts import read_expression, show_expression
from calmword.firsts import first_texts
from calmword.grounds import expression_of, expression_of_saying, told
from calmword.held import parted, thing_machine
from calmword.letters import is_letters
from calmword.machines import lets
from calmword.machinetexts import read_machine, show_machine
from calmword.sayings import free_names, look_saying
from calmword.sayings_of import saying_of
from calmword.sayingtexts import read_saying, show_saying

# What stands behind the first word of a row. A text goes to the row's end, so it stands last.
FORMS = {
    "machine": ("new", "text"), "expression": ("new", "text"), "saying": ("new", "text"), "show": ("kept",),
    "lets": ("kept", "text"), "first": ("kept", "figure"), "size": ("kept",), "part": ("kept", "kept"),
    "told": ("kept",), "express": ("new", "kept"), "say": ("new", "kept"),
}
FIGURES = ("1", "2", "3", "4", "5", "6", "7", "8", "9")
MOST_SIGNS_OF_NAME = 8


class Desk:
    def __init__(self, letters):
        if not is_letters(letters):
            raise BadLetters()
        self.letters = letters
        self.things = {}

    def say(self, row):
        words = words_of_row(row)
        self.look_names(words)
        if FORMS[words[0]][0] == "new":
            thing = self.new_thing(words[0], words[2])
            self.things[words[1]] = thing
            return "ok"
        if words[0] == "part":
            return answer_part(self.letters, self.things[words[1]], self.things[words[2]])
        return answer(self.letters, self.things[words[1]], words)

    def look_names(self, words):
        for form, word in zip(FORMS[words[0]], words[1:]):
            if form in ("new", "kept") and not is_desk_name(word):
                raise NoName(word)
            if form == "kept" and word not in self.things:
                raise NoName(word)

    def new_thing(self, word, text):
        if word == "express":
            return expressed(self.letters, self.things[text])
        if word == "say":
            return said(self.letters, self.things[text])
        return (word, read_thing(self.letters, word, text))


def words_of_row(row):
    if not isinstance(row, str):
        raise NoRow()
    words = row.split(" ")
    if words[0] not in FORMS:
        raise NoRow()
    form = FORMS[words[0]]
    if form[-1] == "text":
        words = row.split(" ", len(form))
    if len(words) != 1 + len(form) or (form[-1] == "figure" and words[-1] not in FIGURES):
        raise NoRow()
    return words


def is_desk_name(word):
    if len(word) < 1 or len(word) > MOST_SIGNS_OF_NAME:
        return False
    return all(["a" <= sign <= "z" for sign in word])


def read_thing(letters, sort, text):
    if sort == "machine":
        return read_desk_machine(letters, text)
    if sort == "expression":
        expression = read_expression(text)
        look_expression(letters, expression)
        return expression
    saying = read_saying(text)
    look_saying(letters, saying)
    if len(free_names(saying)) > 0:
        raise NotClosed(free_names(saying))
    return saying


def read_desk_machine(letters, text):
    machine = read_machine(text.replace("/", "\n"))
    if machine[0] != letters:
        raise OtherLetters()
    return machine


def expressed(letters, thing):
    if thing[0] == "machine":
        return ("expression", expression_of(thing[1]))
    if thing[0] == "saying":
        return ("expression", expression_of_saying(letters, thing[1]))
    return thing


def said(letters, thing):
    if thing[0] == "expression":
        return ("saying", saying_of(letters, thing[1]))
    if thing[0] == "saying":
        return thing
    found = told(thing[1])
    if found[0] != "calm":
        raise NotCalm()
    return ("saying", found[2])


def answer(letters, thing, words):
    if words[0] == "show":
        return answer_show(thing)
    if words[0] == "lets":
        look_text(letters, words[2])
    machine = thing_machine(letters, thing)
    if words[0] == "lets":
        return "yes" if lets(machine, words[2]) else "no"
    if words[0] == "first":
        texts = [dotted(text) for text in first_texts(machine, int(words[2]))]
        return " ".join(texts) if texts else "none"
    if words[0] == "size":
        return " ".join([str(len(machine[1])), str(len(deeds(machine)))])
    return answer_told(machine)


def answer_show(thing):
    if thing[0] == "machine":
        return show_machine(thing[1]).replace("\n", "/")
    if thing[0] == "expression":
        return show_expression(thing[1])
    return show_saying(thing[1])


# The text is looked at ahead of making a machine, since that may be refused.
def look_text(letters, text):
    for place, sign in enumerate(text):
        if sign not in letters:
            raise NoLetter(place)


def answer_part(letters, one, other):
    found = parted(letters, one, other)
    if found[0] == "alike":
        return " ".join(["alike", str(len(found[1]))])
    return " ".join(["on", dotted(found[1])])


def answer_told(machine):
    found = counting(machine)
    if found is None:
        return "calm"
    words = ["counting", dotted(found[0]), dotted(found[1]), dotted(found[2]), str(found[3])]
    words.extend(["yes" if truth else "no" for truth in found[4]])
    return " ".join(words)


def dotted(text):
    return "." if text == "" else text
