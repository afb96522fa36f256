"""Points 8 and 9: least machines, and rooms told apart."""

import random
import unittest

from calmword.least import apart, least
from calmword.machines import look_machine
from samples import ENDS_AB, EVEN_A, EVERY, JUST_AB, NONE, blown_up, chain, first_apart, holds_to_point_2
from samples import least_plainly, made_machine, made_machines, ring, rooms_come_up, texts_of


class Least(unittest.TestCase):
    def test_ordinary_machines(self):
        self.assertEqual(least(("ab", ((1, 1), (0, 0)), (True, True))), EVERY)
        self.assertEqual(least(("ab", ((1, 2), (2, 0), (1, 1)), (False,) * 3)), NONE)
        self.assertEqual(least(("ba", ((1, 2), (2, 1), (1, 2)), (False, True, True))),
                         ("ba", ((1, 1), (1, 1)), (False, True)))

    def test_rooms_are_numbered_as_they_come_up(self):
        turned = ("ab", ((2, 0), (2, 0), (2, 1)), (False, True, False))
        self.assertEqual(least(turned), ENDS_AB)
        late = ("ab", ((3, 1), (1, 1), (1, 1), (1, 2)), (False, False, True, False))
        self.assertEqual(least(late), ("ab", ((1, 2), (2, 3), (2, 2), (2, 2)), (False, False, False, True)))

    def test_letters_in_another_order_number_rooms_otherwise(self):
        self.assertEqual(least(("ba", ((2, 1), (1, 1), (2, 2)), (False, True, False))),
                         ("ba", ((1, 2), (1, 1), (2, 2)), (False, False, True)))

    def test_rooms_that_do_not_come_up_are_left_out(self):
        self.assertEqual(least(("ab", ((0, 0), (0, 1), (1, 0)), (True, False, True))), EVERY)
        self.assertEqual(least(("a", ((2,), (0,), (0,)), (True, True, False))), ("a", ((1,), (0,)), (True, False)))

    def test_the_least_ones_is_itself(self):
        for machine in (EVEN_A, ENDS_AB, NONE, EVERY, ring(60), ring(60, (7,), "dbca"), chain(60, (59,), "ba")):
            self.assertEqual(least(machine), machine)
        for machine in made_machines(10, 60, 9):
            self.assertEqual(least(least(machine)), least(machine))

    def test_many_machines(self):
        for machine in made_machines(11, 300, 9) + [JUST_AB]:
            self.assertEqual(least(machine), least_plainly(machine))

    def test_the_same_texts_and_letters(self):
        for machine in made_machines(12, 40, 5):
            lean = least(machine)
            self.assertIs(look_machine(lean), True)
            self.assertEqual(lean[0], machine[0])
            self.assertEqual(texts_of(lean, 4), texts_of(machine, 4))
            self.assertIsNone(first_apart(lean, machine))

    def test_the_fewest_rooms(self):
        for machine in made_machines(13, 40, 9):
            lean = least(machine)
            rooms = range(len(lean[1]))
            self.assertEqual(rooms_come_up(lean), list(rooms))
            for one in rooms:
                for other in range(one):
                    self.assertIsNotNone(first_apart(lean, lean, one, other))

    def test_machines_of_the_same_texts_have_the_same_one(self):
        for seed, machine in enumerate(made_machines(14, 60, 6)):
            self.assertEqual(least(blown_up(machine, seed, 9)), least(machine))
            self.assertEqual(least(blown_up(machine, seed, 60)), least(machine))

    def test_sixty_rooms(self):
        chance = random.Random(15)
        for letters in ("a", "ba", "cab", "dbca"):
            machine = made_machine(chance, letters, 60)
            self.assertEqual(least(machine), least_plainly(machine))
        self.assertEqual(least(ring(60, range(0, 60, 12), "ab")), ring(12, (0,), "ab"))
        self.assertEqual(least(ring(60, range(60))), ("a", ((0,),), (True,)))

    def test_long_rings_are_made_least_soon(self):
        machine = ring(4000, (0,), "ab")
        self.assertEqual(least(machine), machine)
        self.assertEqual(least(ring(4000, (0, 2000), "ab")), ring(2000, (0,), "ab"))

    def test_what_is_told_is_new_and_stays(self):
        for machine in (JUST_AB, ring(60, (1, 31))):
            holds_to_point_2(self, least, machine)
        told = least(JUST_AB)
        least(EVEN_A)
        self.assertEqual(least(JUST_AB), told)

    def test_kinds(self):
        letters, moves, yes = least(JUST_AB)
        self.assertEqual((type(letters), type(moves), type(yes)), (str, tuple, tuple))
        self.assertEqual({type(row) for row in moves}, {tuple})
        self.assertEqual({type(answer) for answer in yes}, {bool})


class Apart(unittest.TestCase):
    def test_the_first_text(self):
        self.assertEqual(apart(EVEN_A, 0, 1), "")
        self.assertEqual(apart(ENDS_AB, 0, 1), "b")
        self.assertEqual(apart(ENDS_AB, 0, 2), "")
        self.assertEqual(apart(JUST_AB, 0, 3), "ab")
        self.assertEqual(apart(JUST_AB, 1, 3), "b")

    def test_by_the_order_of_the_letters(self):
        for letters, text in (("ab", "a"), ("ba", "b")):
            machine = (letters, ((2, 2), (3, 3), (2, 2), (3, 3)), (True, True, True, False))
            self.assertEqual(apart(machine, 0, 1), text)
        machine = ("ab", ((0, 1), (2, 3), (2, 2), (3, 3)), (False, False, True, False))
        self.assertEqual(apart(machine, 0, 1), "a")
        self.assertEqual(apart(machine, 0, 3), "ba")

    def test_none(self):
        machine = ("ab", ((1, 2), (2, 1), (1, 2)), (True, True, True))
        for one in range(3):
            for other in range(3):
                self.assertIsNone(apart(machine, one, other))

    def test_a_room_and_itself(self):
        for machine in (EVEN_A, ENDS_AB, JUST_AB, ring(60)):
            for room in range(len(machine[1])):
                self.assertIsNone(apart(machine, room, room))

    def test_rooms_that_did_not_come_up(self):
        machine = ("a", ((0,), (2,), (3,), (0,)), (True, True, False, True))
        self.assertEqual(apart(machine, 0, 1), "a")
        self.assertEqual(apart(machine, 1, 3), "a")
        self.assertEqual(apart(machine, 2, 3), "")
        self.assertIsNone(apart(machine, 0, 3))

    def test_all_pairs_of_many_machines(self):
        for machine in made_machines(16, 120, 8):
            for one in range(len(machine[1])):
                for other in range(len(machine[1])):
                    text = first_apart(machine, machine, one, other)
                    self.assertEqual(apart(machine, one, other), text)
                    self.assertEqual(apart(machine, other, one), text)

    def test_blown_up_machines(self):
        for seed, machine in enumerate(made_machines(17, 20, 6)):
            wide = blown_up(machine, seed, 20)
            for one in range(20):
                for other in range(one):
                    self.assertEqual(apart(wide, one, other), first_apart(wide, wide, one, other))

    def test_sixty_rooms(self):
        self.assertEqual(apart(chain(60, (59,), "ba"), 0, 1), "b" * 58)
        self.assertEqual(apart(ring(60), 1, 2), "a" * 58)
        self.assertIsNone(apart(ring(60, (0, 30), "dbca"), 7, 37))
        machine = made_machine(random.Random(18), "cab", 60)
        for one in range(0, 60, 7):
            for other in range(60):
                self.assertEqual(apart(machine, one, other), first_apart(machine, machine, one, other))

    def test_the_same_question_has_the_same_answer(self):
        holds_to_point_2(self, apart, JUST_AB, 0, 3)
        told = apart(JUST_AB, 0, 3)
        apart(JUST_AB, 1, 2)
        self.assertEqual(apart(JUST_AB, 0, 3), told)


if __name__ == "__main__":
    unittest.main()
