"""Point 10: machines held against one another."""

import random
import unittest

from calmword.errors import OtherLetters
from calmword.least import least
from calmword.pairs import compared, pairs_hold
from samples import ENDS_AB, EVEN_A, EVERY, JUST_AB, NONE, blown_up, chain, first_apart, holds_to_point_2
from samples import made_machine, made_machines, refused, ring

EVEN_A_OF_FOUR = ("ab", ((1, 2), (0, 3), (3, 0), (2, 1)), (True, False, True, False))


def pairs_to_which_texts_lead(one, other):
    seen = [(0, 0)]
    for left, right in seen:
        for pair in zip(one[1][left], other[1][right]):
            if pair not in seen:
                seen.append(pair)
    return sorted(seen)


class Compared(unittest.TestCase):
    def test_alike(self):
        self.assertEqual(compared(EVEN_A, EVEN_A), ("alike", [(0, 0), (1, 1)]))
        self.assertEqual(compared(EVEN_A, EVEN_A_OF_FOUR), ("alike", [(0, 0), (0, 2), (1, 1), (1, 3)]))
        self.assertEqual(compared(EVEN_A_OF_FOUR, EVEN_A), ("alike", [(0, 0), (1, 1), (2, 0), (3, 1)]))
        self.assertEqual(compared(NONE, ("ab", ((1, 1), (0, 0)), (False, False))), ("alike", [(0, 0), (0, 1)]))

    def test_only_pairs_to_which_some_text_leads(self):
        more = ("ab", ((0, 0), (0, 0)), (True, False))
        self.assertEqual(compared(EVERY, more), ("alike", [(0, 0)]))
        self.assertEqual(compared(ring(2), ring(4, (0, 2))), ("alike", [(0, 0), (0, 2), (1, 1), (1, 3)]))

    def test_part(self):
        self.assertEqual(compared(EVERY, NONE), ("part", ""))
        self.assertEqual(compared(EVEN_A, EVERY), ("part", "a"))
        self.assertEqual(compared(ENDS_AB, JUST_AB), ("part", "aab"))
        self.assertEqual(compared(JUST_AB, NONE), ("part", "ab"))
        self.assertEqual(compared(ring(3), ring(4)), ("part", "aaa"))

    def test_the_first_text_by_the_order_of_the_letters(self):
        for letters, text in (("ab", "a"), ("ba", "b")):
            one = (letters, ((1, 1), (1, 1)), (True, False))
            every = (letters, ((0, 0),), (True,))
            self.assertEqual(compared(one, every), ("part", text))

    def test_other_letters(self):
        for one, other in (("ab", "ba"), ("ab", "ac"), ("ab", "a"), ("a", "b"), ("abc", "abcd"), ("dcba", "dcab")):
            refused(self, OtherLetters, compared, ring(2, (0,), one), ring(2, (0,), other))
            refused(self, OtherLetters, compared, ring(2, (0,), other), ring(2, (1,), one))

    def test_many_machines(self):
        told = []
        chance = random.Random(20)
        for _ in range(300):
            letters = chance.choice(("a", "ba", "cab"))
            one = made_machine(chance, letters, chance.randint(1, 4))
            other = made_machine(chance, letters, chance.randint(1, 4))
            text = first_apart(one, other)
            if text is None:
                expected = ("alike", pairs_to_which_texts_lead(one, other))
            else:
                expected = ("part", text)
            self.assertEqual(compared(one, other), expected)
            told.append(expected[0])
        self.assertGreater(told.count("alike"), 10)
        self.assertGreater(told.count("part"), 100)

    def test_machines_of_the_same_texts(self):
        for seed, machine in enumerate(made_machines(21, 40)):
            wide = blown_up(machine, seed, 12)
            self.assertEqual(compared(machine, wide), ("alike", pairs_to_which_texts_lead(machine, wide)))
            self.assertEqual(compared(wide, least(wide))[0], "alike")

    def test_one_room_changed(self):
        for seed, machine in enumerate(made_machines(22, 40)):
            wide = blown_up(machine, seed, 12)
            yes = tuple(answer != (room == 5) for room, answer in enumerate(wide[2]))
            text = first_apart(machine, (wide[0], wide[1], yes))
            if text is not None:
                self.assertEqual(compared(machine, (wide[0], wide[1], yes)), ("part", text))

    def test_sixty_rooms(self):
        kind, pairs = compared(ring(60, range(0, 60, 4)), ring(56, range(0, 56, 4)))
        self.assertEqual(kind, "alike")
        self.assertEqual(pairs, [(i, j) for i in range(60) for j in range(56) if i % 4 == j % 4])
        self.assertEqual(compared(ring(60), ring(59)), ("part", "a" * 59))
        one = chain(60, (59,), "ba")
        self.assertEqual(compared(one, ("ba", ((0, 0),), (False,))), ("part", "b" * 59))
        kind, pairs = compared(ring(59, range(59)), ring(60, range(60)))
        self.assertEqual((kind, len(pairs)), ("alike", 3540))

    def test_what_is_told_is_new_and_stays(self):
        holds_to_point_2(self, compared, EVEN_A, EVEN_A_OF_FOUR)
        holds_to_point_2(self, compared, EVEN_A, ENDS_AB)
        told = compared(EVEN_A, EVEN_A_OF_FOUR)
        told[1].clear()
        compared(EVEN_A, NONE)
        self.assertEqual(len(compared(EVEN_A, EVEN_A_OF_FOUR)[1]), 4)


class PairsHold(unittest.TestCase):
    GOOD = [(0, 0), (0, 2), (1, 1), (1, 3)]

    def holds(self, pairs, one=EVEN_A, other=EVEN_A_OF_FOUR):
        return holds_to_point_2(self, pairs_hold, one, other, pairs)

    def test_a_good_list_in_any_order_with_doubles(self):
        self.assertIs(self.holds(list(self.GOOD)), True)
        self.assertIs(self.holds(self.GOOD[::-1]), True)
        self.assertIs(self.holds(self.GOOD + self.GOOD[::-1] + [(1, 3)]), True)
        self.assertIs(self.holds([(0, 0)], EVERY, EVERY), True)

    def test_more_pairs_than_texts_lead_to_may_stand_in_it(self):
        more = ("a", ((0,), (1,), (1,)), (True, False, False))
        self.assertIs(self.holds([(0, 0), (1, 1), (2, 1), (1, 2)], more, more), True)
        self.assertIs(self.holds([(0, 0), (2, 2)], more, more), False)

    def test_without_pairs(self):
        self.assertIs(self.holds([]), False)
        self.assertIs(self.holds([], EVERY, EVERY), False)

    def test_the_first_pair_is_lacking(self):
        machine = ("a", ((0,), (1,)), (True, True))
        self.assertIs(self.holds([(1, 1)], machine, machine), False)
        self.assertIs(self.holds([(0, 1), (1, 0), (1, 1)], machine, machine), False)
        self.assertIs(self.holds(self.GOOD[1:]), False)

    def test_numbers_that_are_no_rooms(self):
        for pair in ((2, 0), (0, 4), (-1, 1), (1, -1), (0, -2), (-2, 0), (1000, 1000), (-1, -1)):
            self.assertIs(self.holds(self.GOOD + [pair]), False, pair)
            self.assertIs(self.holds([pair] + self.GOOD), False, pair)

    def test_yes_in_one_alone(self):
        self.assertIs(self.holds([(i, j) for i in range(2) for j in range(4)]), False)
        self.assertIs(self.holds([(0, 0)], EVERY, NONE), False)
        machine = ("a", ((0,), (1,)), (True, False))
        self.assertIs(self.holds([(0, 0), (1, 0)], machine, machine), False)
        self.assertIs(self.holds([(0, 0), (0, 1)], machine, machine), False)

    def test_a_letter_leads_to_a_pair_that_is_not_in_it(self):
        for pair in self.GOOD[1:]:
            self.assertIs(self.holds([kept for kept in self.GOOD if kept != pair]), False)
        last = ("ab", ((0, 1), (1, 1)), (True, True))
        self.assertIs(self.holds([(0, 0)], last, last), False)
        self.assertIs(self.holds([(0, 0), (1, 1)], last, last), True)

    def test_no_list_holds_for_machines_that_part(self):
        for one in range(2):
            for other in range(2):
                self.assertIs(self.holds([(0, 0), (1, 1), (one, other)], ring(2), ring(2, (1,))), False)

    def test_other_letters(self):
        for letters in ("ba", "ac", "a", "abc"):
            other = ring(2, (0,), letters)
            refused(self, OtherLetters, pairs_hold, EVEN_A, other, [(0, 0), (1, 1)])
            refused(self, OtherLetters, pairs_hold, other, EVEN_A, [])
            refused(self, OtherLetters, pairs_hold, other, EVEN_A, [(-1, 9)])

    def test_what_compared_tells_holds(self):
        for seed, machine in enumerate(made_machines(23, 40)):
            wide = blown_up(machine, seed, 12)
            pairs = compared(machine, wide)[1]
            random.Random(seed).shuffle(pairs)
            self.assertIs(pairs_hold(machine, wide, pairs), True)
            for pair in pairs:
                self.assertIs(pairs_hold(machine, wide, [kept for kept in pairs if kept != pair]), False)

    def test_sixty_rooms(self):
        one = ring(60, range(60), "ab")
        other = ring(59, range(59), "ab")
        pairs = compared(one, other)[1]
        self.assertIs(pairs_hold(one, other, pairs), True)
        self.assertIs(pairs_hold(one, other, pairs[:2000] + pairs[2001:]), False)


if __name__ == "__main__":
    unittest.main()
