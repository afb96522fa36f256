"""Points 1, 2 and 3, over the whole program, and the names of the interface."""

import importlib
import inspect
import itertools
import unittest

from calmword.countings import counting, counting_holds
from calmword.deeds import calm, deed_of, deeds, put, stand_of, told_apart
from calmword.desk import Desk
from calmword.expressiontexts import read_expression, show_expression
from calmword.grounds import expression_of, expression_of_saying, told
from calmword.held import outrun, parted
from calmword.least import least
from calmword.machines import lets
from calmword.machinetexts import read_machine, show_machine
from calmword.made import machine_of
from calmword.pairs import compared, pairs_hold
from calmword.rounds import alike_up_to, saying_apart
from calmword.saymade import saying_machine
from calmword.sayings import depth_of
from calmword.sayings_of import saying_of
from calmword.sayingtexts import read_saying, show_saying
from calmword.errors import TooMany
from calmsamples import calm_plainly, drawn_machines, within_bounds
from samples import blown_up, first_apart, least_plainly, made_machines, read_plainly, texts_to
from saysamples import closed_sayings, holds_plainly
from tellings import made_expressions, texts_by_row

INTERFACE = """
letters: is_letters(text) goes_first(letters,one,other) all_texts(letters,most)
machines: look_machine(machine) led(machine,room,text) lets(machine,text)
machinetexts: show_machine(machine) read_machine(text)
least: least(machine) apart(machine,one,other)
pairs: compared(one,other) pairs_hold(one,other,pairs)
firsts: first_texts(machine,many) how_many(machine,n) longest(machine)
joined: no_of(machine) both_of(one,other,most=400) either_of(one,other,most=400)
strung: behind_of(one,other,most=400) about_of(machine,most=400) begun(machine,text) ended(machine,text)
expressions: look_expression(letters,expression) tells(letters,expression,text) tidied(expression)
expressions: stand_number(expression)
made: machine_of(letters,expression,most=400)
expressiontexts: show_expression(expression) read_expression(text)
sayings: is_name(text) look_saying(letters,saying) free_names(saying) depth_of(saying)
holding: holds(saying,text,places)
marks: marked_letters(letters,names) marked_text(letters,names,text,places)
saymade: marked_machine(letters,saying,most=400) saying_machine(letters,saying,most=400)
sayingtexts: show_saying(saying) read_saying(text)
sayings_of: saying_of(letters,expression)
rounds: alike_up_to(one,other,depth) saying_apart(one,other,depth)
deeds: deeds(machine,most=2000) deed_of(machine,text) put(one,other) told_apart(machine,one,other)
deeds: stand_of(deed) calm(machine)
countings: counting(machine) counting_holds(machine,counting)
grounds: expression_of(machine) expression_of_saying(letters,saying) told(machine)
held: parted(letters,one,other) outrun(machine,counting,thing)
"""


def within(machine):
    """Whether a least machine lies within the bounds of point 30."""
    rooms, letters = len(machine[1]), len(machine[0])
    return (rooms <= 3 and letters <= 3) or (rooms <= 4 and letters <= 2)


class Interface(unittest.TestCase):
    def test_names_and_arguments(self):
        seen = 0
        for row in INTERFACE.strip().split("\n"):
            module, names = row.split(": ")
            for name in names.split(" "):
                function = getattr(importlib.import_module("calmword." + module), name.split("(")[0])
                shown = str(inspect.signature(function)).replace(" ", "")
                self.assertEqual(function.__name__ + shown, name)
                seen += 1
        self.assertEqual(seen, 56)
        self.assertEqual(str(inspect.signature(Desk)).replace(" ", ""), "(letters)")
        self.assertEqual(str(inspect.signature(Desk.say)).replace(" ", ""), "(self,row)")


class LedToOneAnother(unittest.TestCase):
    def alike(self, letters, one, other):
        """By a table of pairs that is walked and holds."""
        left, right = made(letters, one), made(letters, other)
        answer = compared(left, right)
        self.assertEqual(answer[0], "alike", (letters, one, other))
        self.assertIs(pairs_hold(left, right, answer[1]), True)
        self.assertIsNone(first_apart(left, right))

    def test_machines(self):
        for machine in within_bounds(250):
            letters = machine[0]
            sort, expression, saying = told(machine)
            self.assertEqual(sort, "calm")
            for thing in (("expression", expression), ("saying", saying),
                          ("saying", saying_of(letters, expression)), ("expression", expression_of(machine)),
                          ("machine", read_machine(show_machine(machine)))):
                self.alike(letters, ("machine", machine), thing)
            if len(least(machine)[1]) <= 2:
                self.alike(letters, ("machine", machine), ("expression", expression_of_saying(letters, saying)))
                self.alike(letters, ("machine", machine), ("expression", read_expression(show_expression(expression))))
                self.assertEqual(parted(letters, ("machine", machine), ("saying", saying))[0], "alike")

    def test_expressions(self):
        back = 0
        for letters, expression in made_expressions(251, 150, 8):
            machine = machine_of(letters, expression)
            self.assertEqual(least_plainly(machine), machine)
            due = texts_by_row(letters, expression, 4)[-1]
            self.assertEqual({text for text in texts_to(letters, 4) if read_plainly(machine, text)}, due)
            self.assertIs(calm(machine), True)
            self.alike(letters, ("machine", machine), ("saying", saying_of(letters, expression)))
            if within(machine):
                back += 1
                self.alike(letters, ("expression", expression), ("expression", expression_of(machine)))
                self.alike(letters, ("expression", expression), ("saying", told(machine)[2]))
        self.assertGreater(back, 80)

    def test_sayings(self):
        back = 0
        for letters in ("a", "ba", "cab"):
            for saying in closed_sayings(252, 40, letters):
                machine = saying_machine(letters, saying)
                self.assertEqual(least_plainly(machine), machine)
                for text in texts_to(letters, 3):
                    self.assertIs(read_plainly(machine, text), holds_plainly(saying, text, {}))
                self.assertIs(calm(machine), True)
                if within(machine):
                    back += 1
                    expression = expression_of_saying(letters, saying)
                    self.alike(letters, ("saying", saying), ("expression", expression))
                    self.alike(letters, ("saying", saying), ("saying", saying_of(letters, expression)))
                    self.alike(letters, ("saying", saying), ("saying", read_saying(show_saying(saying))))
        self.assertGreater(back, 60)

    def test_at_a_desk(self):
        for machine in drawn_machines(253, 12, 3, "ab"):
            desk = Desk("ab")
            for row in ("machine m " + show_machine(machine).replace("\n", "/"), "express e m", "say s m", "say t e",
                        "express f e"):
                self.assertEqual(desk.say(row), "ok")
            for one, other in itertools.product("mestf", repeat=2):
                self.assertEqual(desk.say(f"part {one} {other}"), "alike 3")
            self.assertEqual(len({desk.say("size " + name) for name in "mestf"}), 1)


class WhatCounts(unittest.TestCase):
    def test_each_that_is_handed_in_parts(self):
        machines = drawn_machines(254, 12, 3, "ab", False) + drawn_machines(255, 12, 4, "ab", False)
        things = [("expression", expression) for _, expression in made_expressions(256, 15, 9, ("ab",))]
        things += [("saying", saying) for saying in closed_sayings(257, 15, "ab")]
        for machine in machines + [blown_up(machine, 3, 30) for machine in machines[::4]]:
            answer = told(machine)
            self.assertEqual(answer, ("counting", counting(machine)))
            self.assertIs(counting_holds(machine, answer[1]), True)
            for thing in things:
                sort, text = parted("ab", ("machine", machine), thing)
                self.assertEqual(sort, "part")
                self.assertEqual(text, first_apart(machine, made("ab", thing)))
                n = outrun(machine, answer[1], thing)
                whole = answer[1][0] + answer[1][1] * n + answer[1][2]
                self.assertNotEqual(lets(machine, whole), lets(made("ab", thing), whole))

    def test_either_is_told(self):
        for machine in made_machines(258, 60, 3, ("a", "ba", "cab")):
            self.assertEqual(told(machine)[0], "calm" if calm_plainly(machine) else "counting")


class TableOfDeeds(unittest.TestCase):
    def test_no_two_rows_could_be_one(self):
        for machine in made_machines(259, 30, 3, ("a", "ba")) + [blown_up(machine, 4, 20) for machine in made_machines(
                260, 10, 3, ("cab",))]:
            table = deeds(machine)
            self.assertIs(calm(machine), all(stand_of(deed) is not None for _, deed in table))
            for (one, left), (other, right) in itertools.permutations(table, 2):
                before, behind = told_apart(machine, left, right)
                self.assertNotEqual(lets(machine, before + one + behind), lets(machine, before + other + behind))
            for (one, left), (other, right) in itertools.product(table[:12], repeat=2):
                self.assertEqual(put(left, right), deed_of(machine, one + other))
                self.assertIn(put(left, right), [deed for _, deed in table])


class TwoTexts(unittest.TestCase):
    def test_alike_or_told_apart(self):
        for one, other in itertools.product(texts_to("ab", 3), repeat=2):
            for depth in range(4):
                saying = saying_apart(one, other, depth)
                self.assertIs(saying is None, alike_up_to(one, other, depth))
                if saying is not None:
                    machine = saying_machine("ab", saying, 99999)
                    self.assertIs(lets(machine, one), True)
                    self.assertIs(lets(machine, other), False)
                    self.assertLessEqual(depth_of(saying), depth)


def made(letters, thing):
    """The machine of a thing, made plainly."""
    if thing[0] == "machine":
        return thing[1]
    if thing[0] == "expression":
        return machine_of(letters, thing[1])
    try:
        return saying_machine(letters, thing[1])
    except TooMany:
        return saying_machine(letters, thing[1], 99999)


if __name__ == "__main__":
    unittest.main()
