"""Point 12: no, both, either."""

import inspect
import random
import unittest

from calmword.errors import OtherLetters, TooMany
from calmword.joined import both_of, either_of, no_of
from calmword.least import least
from samples import ENDS_AB, EVEN_A, EVERY, JUST_AB, NONE, blown_up, both_rooms, chain, holds_to_point_2
from samples import least_plainly, made_machine, made_machines, made_pairs, refused, ring, rooms_come_up, texts_of
from samples import texts_to

TWO = (both_of, either_of)


class No(unittest.TestCase):
    def test_all_other_texts(self):
        self.assertEqual(no_of(NONE), EVERY)
        self.assertEqual(no_of(EVERY), NONE)
        self.assertEqual(no_of(EVEN_A), ("ab", ((1, 0), (0, 1)), (False, True)))
        for machine in made_machines(40, 40, 5):
            kept = texts_of(machine, 4)
            others = [text for text in texts_to(machine[0], 4) if text not in kept]
            self.assertEqual(texts_of(no_of(machine), 4), others)

    def test_a_least_machine(self):
        for machine in made_machines(41, 60, 9):
            told = no_of(machine)
            turned = (machine[0], machine[1], tuple(not answer for answer in machine[2]))
            self.assertEqual(told, least_plainly(turned))
            self.assertEqual(no_of(told), least_plainly(machine))

    def test_never_refused(self):
        for machine in (ring(60), ring(60, (7,), "dbca"), ring(1000), blown_up(ENDS_AB, 1, 60)):
            self.assertEqual(no_of(no_of(machine)), least(machine))
        self.assertEqual(list(inspect.signature(no_of).parameters), ["machine"])

    def test_what_is_told_is_new_and_stays(self):
        holds_to_point_2(self, no_of, JUST_AB)


class BothAndEither(unittest.TestCase):
    def test_ordinary_machines(self):
        self.assertEqual(both_of(EVEN_A, EVERY), EVEN_A)
        self.assertEqual(both_of(EVEN_A, NONE), NONE)
        self.assertEqual(either_of(EVEN_A, NONE), EVEN_A)
        self.assertEqual(either_of(EVEN_A, EVERY), EVERY)
        self.assertEqual(either_of(EVEN_A, no_of(EVEN_A)), EVERY)
        self.assertEqual(both_of(EVEN_A, no_of(EVEN_A)), NONE)
        self.assertEqual(both_of(ENDS_AB, JUST_AB), least(JUST_AB))
        self.assertEqual(either_of(ENDS_AB, JUST_AB), ENDS_AB)

    def test_texts_of_both_and_of_one(self):
        for one, other in made_pairs(42, 60, 4):
            left = texts_of(one, 5)
            right = texts_of(other, 5)
            every = texts_to(one[0], 5)
            in_both = [text for text in every if text in left and text in right]
            in_one = [text for text in every if text in left or text in right]
            self.assertEqual(texts_of(both_of(one, other), 5), in_both)
            self.assertEqual(texts_of(either_of(one, other), 5), in_one)

    def test_least_machines(self):
        for one, other in made_pairs(43, 60, 5):
            for function in TWO:
                told = function(one, other)
                self.assertEqual(told, least_plainly(told))
                self.assertEqual(told, function(other, one))
                self.assertEqual(told[0], one[0])
                self.assertEqual(function(one, one), least_plainly(one))

    def test_no_turns_the_one_into_the_other(self):
        for one, other in made_pairs(44, 60, 6):
            self.assertEqual(no_of(both_of(one, other)), either_of(no_of(one), no_of(other)))

    def test_rings(self):
        self.assertEqual(both_of(ring(3), ring(4)), ring(12))
        self.assertEqual(both_of(ring(4, (0, 2)), ring(6, (0, 3))), ring(6))
        self.assertEqual(either_of(ring(2), ring(2, (1,))), ring(1))

    def test_the_kinds_of_what_is_told(self):
        for function in TWO:
            letters, moves, yes = function(EVEN_A, ENDS_AB)
            self.assertEqual((type(letters), type(moves), type(yes)), (str, tuple, tuple))
            self.assertEqual({type(row) for row in moves}, {tuple})
            self.assertEqual({type(answer) for answer in yes}, {bool})

    def test_too_many_from_one_more_than_most_on(self):
        for one, other in made_pairs(45, 30, 6):
            count = both_rooms(one, other)
            for function in TWO:
                told = function(one, other, count)
                self.assertEqual(told, function(one, other, count + 1))
                for most in {1, count // 2, count - 1} - {0, count}:
                    self.assertEqual(refused(self, TooMany, function, one, other, most).at, 0)

    def test_rooms_are_counted_ahead_of_making_them_least(self):
        for function, other in ((both_of, NONE), (either_of, EVERY)):
            refused(self, TooMany, function, ring(3, (0,), "ab"), other, 2)
            self.assertEqual(function(ring(3, (0,), "ab"), other, 3), other)

    def test_they_are_made_of_the_least_ones(self):
        for function in TWO:
            self.assertEqual(len(function(blown_up(EVERY, 1, 60), blown_up(NONE, 2, 60), 1)[1]), 1)
            self.assertEqual(function(ring(60, range(0, 60, 2)), ring(58, range(0, 58, 2)), 2), ring(2))

    def test_most_left_out_is_400(self):
        for function in TWO:
            self.assertEqual(function(ring(20), ring(20, (19,)), 20), function(ring(20), ring(20, (19,))))
            wide = ring(25, (0,))
            self.assertEqual(function(wide, ring(16)), function(wide, ring(16), 400))
            self.assertEqual(refused(self, TooMany, function, ring(401, (0,)), ring(1)).at, 0)
            self.assertEqual(refused(self, TooMany, function, ring(24), ring(17)).at, 0)
        self.assertEqual(both_of(ring(25), ring(16)), ring(400))
        self.assertEqual(both_of(ring(24), ring(17), 408), ring(408))

    def test_most_by_its_name(self):
        for function in TWO:
            self.assertEqual(function(ring(3), ring(5), most=15), function(ring(3), ring(5)))
            with self.assertRaises(TooMany):
                function(ring(3), ring(5), most=14)

    def test_other_letters_go_ahead_of_too_many(self):
        for letters in ("ba", "ac", "a", "abc"):
            for function in TWO:
                refused(self, OtherLetters, function, EVEN_A, ring(3, (0,), letters))
                refused(self, OtherLetters, function, ring(3, (0,), letters), EVEN_A, 1)
                refused(self, OtherLetters, function, NONE, ring(1, (), letters), 1)

    def test_sixty_rooms(self):
        self.assertEqual(both_of(ring(60), ring(59), 3540), ring(3540))
        refused(self, TooMany, both_of, ring(60), ring(59), 3539)
        told = either_of(chain(60, (59,), "dbca"), chain(58, (57,), "dbca"))
        self.assertEqual(told, chain(58, (57,), "dbca"))
        chance = random.Random(46)
        one = made_machine(chance, "ba", 60)
        other = made_machine(chance, "ba", 60)
        told = both_of(one, other, 3600)
        self.assertEqual(rooms_come_up(told), list(range(len(told[1]))))
        kept = texts_of(other, 9)
        self.assertEqual(texts_of(told, 9), [text for text in texts_of(one, 9) if text in kept])

    def test_what_is_told_is_new_and_stays(self):
        for function in TWO:
            holds_to_point_2(self, function, EVEN_A, ENDS_AB)
            holds_to_point_2(self, function, ring(60), ring(12, (3,)))
            told = function(EVEN_A, JUST_AB)
            function(JUST_AB, EVEN_A)
            refused(self, TooMany, function, EVEN_A, JUST_AB, 1)
            self.assertEqual(function(EVEN_A, JUST_AB), told)


if __name__ == "__main__":
    unittest.main()
