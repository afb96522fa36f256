"""Points 5 and 6: machines looked at, and texts led through them."""

import unittest

from calmword.errors import BadLetters, BadRoom, NoLetter
from calmword.machines import led, lets, look_machine
from samples import ENDS_AB, EVEN_A, EVERY, JUST_AB, NONE, holds_to_point_2, made_machines, read_plainly
from samples import refused, ring, texts_to


class LookMachine(unittest.TestCase):
    def room_of(self, machine):
        return refused(self, BadRoom, look_machine, machine).room

    def test_good_machines(self):
        for machine in (EVEN_A, ENDS_AB, JUST_AB, NONE, EVERY, ring(60), ring(60, (3,), "dbca")):
            self.assertIs(holds_to_point_2(self, look_machine, machine), True)
        for machine in made_machines(1, 50):
            self.assertIs(look_machine(machine), True)

    def test_rooms_that_do_not_come_up_are_good(self):
        self.assertIs(look_machine(("a", ((0,), (0,), (1,)), (False, True, False))), True)

    def test_letters_that_are_none(self):
        for letters in ("", "abcde", "aa", "aB", "a b", "A", "1", "a-"):
            moves = ((0,) * len(letters),)
            refused(self, BadLetters, look_machine, (letters, moves, (True,)))

    def test_moves_and_yes_not_as_many(self):
        self.assertEqual(self.room_of(("a", ((0,), (0,)), (True,))), 1)
        self.assertEqual(self.room_of(("a", ((0,),), (True, False, True))), 1)
        self.assertEqual(self.room_of(("a", ((0,), (1,), (2,)), (True, False))), 2)
        self.assertEqual(self.room_of(("a", (), (True,))), 0)
        self.assertEqual(self.room_of(("a", ((0,),), ())), 0)

    def test_no_rooms(self):
        self.assertEqual(self.room_of(("ab", (), ())), 0)

    def test_moves_not_as_many_as_letters(self):
        self.assertEqual(self.room_of(("ab", ((0,),), (True,))), 0)
        self.assertEqual(self.room_of(("ab", ((0, 0, 0),), (True,))), 0)
        self.assertEqual(self.room_of(("ab", ((0, 1), ()), (True, True))), 1)
        self.assertEqual(self.room_of(("a", ((0,), (1,), (1, 1)), (True, True, False))), 2)

    def test_numbers_that_are_no_room(self):
        self.assertEqual(self.room_of(("a", ((1,),), (True,))), 0)
        self.assertEqual(self.room_of(("ab", ((0, 1), (1, 2)), (True, True))), 1)
        self.assertEqual(self.room_of(("ab", ((0, 1), (-1, 0)), (True, True))), 1)
        self.assertEqual(self.room_of(("ab", ((0, -2), (0, 0)), (True, True))), 0)
        self.assertEqual(self.room_of(("a", ((0,), (1000000,), (0,)), (True,) * 3)), 1)

    def test_the_first_wrong_room_goes_first(self):
        self.assertEqual(self.room_of(("ab", ((0, 0), (0, 9), (0,)), (True,) * 3)), 1)
        self.assertEqual(self.room_of(("ab", ((0, 0), (0,), (0, 9)), (True,) * 3)), 1)
        self.assertEqual(self.room_of(("ab", ((-1, 0), (0,), (0, 9)), (True,) * 3)), 0)

    def test_letters_go_ahead_of_counts_and_rooms(self):
        refused(self, BadLetters, look_machine, ("", (), ()))
        refused(self, BadLetters, look_machine, ("aa", ((0,),), (True, True)))
        refused(self, BadLetters, look_machine, ("abcde", ((9,),), (True,)))

    def test_counts_go_ahead_of_rooms(self):
        self.assertEqual(self.room_of(("ab", ((9,), (0, 0), (0, 0)), (True, True))), 2)
        self.assertEqual(self.room_of(("ab", ((-1, 0),), (True, True))), 1)


class Led(unittest.TestCase):
    def test_from_room_0(self):
        self.assertEqual(led(ENDS_AB, 0, "aab"), 2)
        self.assertEqual(led(ENDS_AB, 0, "aabb"), 0)
        self.assertEqual(led(JUST_AB, 0, "ab"), 2)

    def test_from_other_rooms(self):
        self.assertEqual(led(ENDS_AB, 1, "b"), 2)
        self.assertEqual(led(ENDS_AB, 2, "b"), 0)
        self.assertEqual(led(("a", ((0,), (2,), (1,)), (True, False, True)), 1, "aaa"), 2)

    def test_the_text_without_signs_leads_nowhere_else(self):
        for room in range(4):
            self.assertEqual(led(JUST_AB, room, ""), room)

    def test_letters_go_by_their_order_in_the_machine(self):
        machine = ("ba", ((1, 0), (1, 1)), (False, True))
        self.assertEqual(led(machine, 0, "aab"), 1)
        self.assertEqual(led(machine, 0, "aaa"), 0)

    def test_sixty_signs_and_sixty_rooms(self):
        self.assertEqual(led(ring(60), 0, "a" * 59), 59)
        self.assertEqual(led(ring(60), 7, "a" * 60), 7)

    def test_a_sign_that_is_no_letter(self):
        for text, at in (("c", 0), ("ac", 1), ("abca", 2), ("cc", 0), ("aaaaA", 4), ("a b", 1), ("ab\n", 2)):
            self.assertEqual(refused(self, NoLetter, led, EVEN_A, 0, text).at, at)
            self.assertEqual(refused(self, NoLetter, led, EVEN_A, 1, text).at, at)

    def test_the_same_question_has_the_same_answer(self):
        holds_to_point_2(self, led, ENDS_AB, 1, "bab")


class Lets(unittest.TestCase):
    def test_yes_and_no(self):
        for text, answer in (("", True), ("a", False), ("aa", True), ("bbb", True), ("abab", True), ("bab", False)):
            self.assertIs(lets(EVEN_A, text), answer)
        self.assertIs(lets(NONE, ""), False)
        self.assertIs(lets(EVERY, ""), True)

    def test_many_machines(self):
        for machine in made_machines(2, 40):
            for text in texts_to(machine[0], 4):
                self.assertIs(lets(machine, text), read_plainly(machine, text))

    def test_a_sign_that_is_no_letter(self):
        for text, at in (("c", 0), ("bbbc", 3), ("b-c", 1)):
            self.assertEqual(refused(self, NoLetter, lets, EVERY, text).at, at)

    def test_the_same_question_has_the_same_answer(self):
        holds_to_point_2(self, lets, EVEN_A, "ab")


if __name__ == "__main__":
    unittest.main()
