"""Point 11: first texts, how many, and the longest."""

import random
import unittest

from calmword.firsts import first_texts, how_many, longest
from calmword.least import least
from samples import ENDS_AB, EVEN_A, EVERY, JUST_AB, NONE, blown_up, chain, holds_to_point_2, made_machine
from samples import made_machines, ring, rooms_come_up, texts_of, texts_to


def longest_plainly(machine):
    """Some text with as many signs as rooms or more, and fewer than twice as many, tells that there is no longest."""
    letters, moves, yes = machine
    layer = {0}
    found = -1
    for signs in range(2 * len(moves)):
        if any(yes[room] for room in layer):
            found = signs
        layer = {target for room in layer for target in moves[room]}
    return None if found >= len(moves) else found


class FirstTexts(unittest.TestCase):
    def test_in_order(self):
        self.assertEqual(first_texts(EVEN_A, 5), ["", "b", "aa", "bb", "aab"])
        self.assertEqual(first_texts(ENDS_AB, 4), ["ab", "aab", "bab", "aaab"])
        self.assertEqual(first_texts(EVERY, 8), ["", "a", "b", "aa", "ab", "ba", "bb", "aaa"])

    def test_by_the_order_of_the_letters(self):
        self.assertEqual(first_texts(("ba", ((0, 0),), (True,)), 5), ["", "b", "a", "bb", "ba"])
        self.assertEqual(first_texts(("zma", ((1, 1, 1), (1, 1, 1)), (False, True)), 4), ["z", "m", "a", "zz"])

    def test_none_asked_for(self):
        for machine in (EVERY, NONE, JUST_AB, ring(60)):
            self.assertEqual(first_texts(machine, 0), [])

    def test_all_where_there_are_fewer(self):
        self.assertEqual(first_texts(NONE, 200), [])
        self.assertEqual(first_texts(JUST_AB, 200), ["ab"])
        self.assertEqual(first_texts(("a", ((1,), (1,)), (True, False)), 3), [""])
        self.assertEqual(first_texts(chain(5, (0, 2, 3)), 200), ["", "aa", "aaa"])
        self.assertEqual(first_texts(chain(4, (2,), "ba"), 4), ["bb", "ba", "ab", "aa"])
        self.assertEqual(first_texts(chain(4, (2,), "ba"), 5), ["bb", "ba", "ab", "aa"])
        self.assertEqual(first_texts(chain(4, (2,), "ba"), 3), ["bb", "ba", "ab"])

    def test_many_machines(self):
        for machine in made_machines(30, 60, 5):
            texts = texts_of(machine, 6)
            for many in (0, 1, 2, 7, 40):
                told = first_texts(machine, many)
                if len(texts) >= many:
                    self.assertEqual(told, texts[:many])
                else:
                    self.assertEqual(told[:len(texts)], texts)

    def test_blown_up_machines(self):
        for seed, machine in enumerate(made_machines(31, 30, 6)):
            self.assertEqual(first_texts(blown_up(machine, seed, 60), 50), first_texts(machine, 50))

    def test_very_many_texts_stand_ahead(self):
        deep = chain(62, (60,), "dbca")
        self.assertEqual(first_texts(deep, 3), ["d" * 60, "d" * 59 + "b", "d" * 59 + "c"])
        told = first_texts(deep, 200)
        self.assertEqual(told, ["d" * 56 + text for text in texts_to("dbca", 4) if len(text) == 4][:200])

    def test_the_last_of_very_many_texts(self):
        moves = tuple((60, room + 1) for room in range(59)) + ((60, 59), (60, 60))
        machine = ("ab", moves, (False,) * 59 + (True, False))
        self.assertEqual(first_texts(machine, 2), ["b" * 59, "b" * 60])

    def test_long_gaps(self):
        self.assertEqual(first_texts(ring(30), 3), ["", "a" * 30, "a" * 60])
        self.assertEqual(first_texts(ring(60, (59,), "ab"), 2), ["a" * 59, "a" * 58 + "b"])

    def test_rings_that_are_not_come_to_or_lead_to_no_yes(self):
        self.assertEqual(first_texts(("a", ((1,), (2,), (2,), (3,)), (False, True, False, True)), 9), ["a"])
        self.assertEqual(first_texts(("ab", ((0, 1), (2, 2), (3, 3), (2, 2)), (False, True, False, False)), 3),
                         ["b", "ab", "aab"])

    def test_two_hundred_of_sixty_rooms(self):
        machine = made_machine(random.Random(32), "cab", 60)
        self.assertEqual(first_texts(machine, 200), texts_of(machine, 6)[:200])

    def test_what_is_told_is_new_and_stays(self):
        for machine in (EVEN_A, JUST_AB, NONE):
            holds_to_point_2(self, first_texts, machine, 6)
        told = first_texts(EVEN_A, 6)
        first_texts(ENDS_AB, 3)
        how_many(EVEN_A, 5)
        self.assertEqual(first_texts(EVEN_A, 6), told)


class HowMany(unittest.TestCase):
    def test_ordinary_machines(self):
        self.assertEqual([how_many(EVEN_A, n) for n in range(5)], [1, 1, 2, 4, 8])
        self.assertEqual([how_many(ENDS_AB, n) for n in range(5)], [0, 0, 1, 2, 4])
        self.assertEqual([how_many(JUST_AB, n) for n in range(5)], [0, 0, 1, 0, 0])
        self.assertEqual([how_many(NONE, n) for n in range(5)], [0, 0, 0, 0, 0])

    def test_no_signs(self):
        self.assertEqual(how_many(EVERY, 0), 1)
        self.assertEqual(how_many(ring(60, range(1, 60)), 0), 0)

    def test_many_machines(self):
        for machine in made_machines(33, 60, 6):
            texts = texts_of(machine, 5)
            for n in range(6):
                self.assertEqual(how_many(machine, n), len([text for text in texts if len(text) == n]))

    def test_however_great(self):
        self.assertEqual(how_many(("dbca", ((0, 0, 0, 0),), (True,)), 200), 4 ** 200)
        self.assertEqual(how_many(EVEN_A, 200), 2 ** 199)
        for n in (0, 1, 2, 57, 199, 200):
            self.assertEqual(how_many(ring(3, (1,), "cab"), n), 3 ** n if n % 3 == 1 else 0)

    def test_texts_without_two_a_beside_one_another(self):
        machine = ("ab", ((1, 0), (2, 0), (2, 2)), (True, True, False))
        counts = [1, 2]
        while len(counts) <= 200:
            counts.append(counts[-1] + counts[-2])
        self.assertEqual([how_many(machine, n) for n in range(201)], counts)

    def test_sixty_rooms(self):
        machine = made_machine(random.Random(34), "dbca", 60)
        other = (machine[0], machine[1], tuple(not answer for answer in machine[2]))
        for n in (0, 1, 30, 199, 200):
            self.assertEqual(how_many(machine, n) + how_many(other, n), 4 ** n)

    def test_the_same_question_has_the_same_answer(self):
        self.assertIs(type(holds_to_point_2(self, how_many, EVEN_A, 9)), int)


class Longest(unittest.TestCase):
    def test_a_number(self):
        self.assertEqual(longest(JUST_AB), 2)
        self.assertEqual(longest(("a", ((1,), (1,)), (True, False))), 0)
        self.assertEqual(longest(chain(5, (0, 2, 3), "ba")), 3)
        self.assertEqual(longest(chain(60, (58,), "dbca")), 58)

    def test_none_is_let_by(self):
        self.assertEqual(longest(NONE), -1)
        self.assertEqual(longest(("a", ((1,), (0,), (0,)), (False, False, True))), -1)
        self.assertEqual(longest(ring(60, ())), -1)

    def test_no_longest(self):
        for machine in (EVERY, EVEN_A, ENDS_AB, ring(60), chain(60, (59,)), chain(60, (0, 59))):
            self.assertIsNone(longest(machine))

    def test_a_ring_that_is_not_come_to(self):
        self.assertEqual(longest(("a", ((1,), (2,), (2,), (4,), (3,)), (True, True, False, True, True))), 1)

    def test_a_ring_that_leads_to_no_yes(self):
        moves = ((1, 2), (3, 3), (3, 3), (4, 4), (3, 4))
        self.assertEqual(longest(("ab", moves, (False, True, True, False, False))), 1)
        self.assertEqual(longest(("ab", ((1, 2), (0, 2), (2, 1)), (False,) * 3)), -1)

    def test_a_ring_ahead_of_a_yes(self):
        self.assertIsNone(longest(("ab", ((0, 1), (2, 2), (2, 2)), (False, True, False))))
        self.assertIsNone(longest(("ab", ((1, 3), (2, 3), (1, 4), (3, 3), (3, 3)), (False,) * 4 + (True,))))

    def test_ways_of_other_lengths_to_one_room(self):
        moves = ((1, 3), (2, 4), (3, 4), (4, 4), (4, 4))
        self.assertEqual(longest(("ab", moves, (False, False, False, True, False))), 3)
        self.assertEqual(longest(("ba", moves, (True, True, False, False, False))), 1)

    def test_many_machines(self):
        seen = []
        for machine in made_machines(35, 400, 6):
            expected = longest_plainly(machine)
            self.assertEqual(longest(machine), expected)
            seen.append(expected)
        for value in (None, -1, 0, 1, 2):
            self.assertIn(value, seen)

    def test_machines_without_rings_but_at_their_end(self):
        chance = random.Random(36)
        for _ in range(60):
            rooms = chance.randint(2, 60)
            nearest = [min(room + 1, rooms - 1) for room in range(rooms)]
            moves = tuple(tuple(chance.randint(near, rooms - 1) for _ in "cab") for near in nearest)
            machine = ("cab", moves, tuple(chance.random() < 0.2 for _ in range(rooms - 1)) + (False,))
            self.assertEqual(longest(machine), longest_plainly(machine))
            self.assertIsNotNone(longest(machine))

    def test_it_is_that_of_the_least_machine(self):
        for seed, machine in enumerate(made_machines(37, 40)):
            self.assertEqual(longest(blown_up(machine, seed, 60)), longest(least(machine)))
            self.assertLessEqual(len(rooms_come_up(least(machine))), 6)

    def test_the_same_question_has_the_same_answer(self):
        for machine in (JUST_AB, NONE, EVERY):
            holds_to_point_2(self, longest, machine)


if __name__ == "__main__":
    unittest.main()
