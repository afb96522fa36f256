"""Point 29: countings."""

import random
import unittest

from calmword.countings import counting, counting_holds
from calmword.errors import TooMany
from calmsamples import calm_plainly
from samples import ENDS_AB, EVEN_A, EVERY, JUST_2000, JUST_2001, JUST_AB, NONE, VERY_MANY, blown_up, chain
from samples import deed_plainly, holds_to_point_2, least_plainly, made_machines, read_plainly, refused, ring, texts_to


def told_again(rest):
    """Whether a shorter tuple told again and again makes the tuple."""
    return any(rest == rest[:count] * (len(rest) // count) for count in range(1, len(rest)) if len(rest) % count == 0)


def room_far_on(machine, text, room=0):
    letters, moves, _ = machine
    for sign in text:
        room = moves[room][letters.index(sign)]
    return room


def truths_plainly(machine, start, text, end, first, count):
    """Whether u, n times v, w is let by, for so many n from the first on."""
    room = room_far_on(machine, start + text * first)
    truths = []
    for _ in range(count):
        truths.append(read_plainly(machine, end, room))
        room = room_far_on(machine, text, room)
    return tuple(truths)


def holds_plainly(machine, told):
    """Walked so far that rooms and rest have come back together for sure."""
    start, text, end, first, rest = told
    if text == "" or len(rest) < 2 or told_again(rest):
        return False
    count = len(machine[1]) * (len(rest) + 1)
    truths = truths_plainly(machine, start, text, end, first, count)
    return all(truth == rest[n % len(rest)] for n, truth in enumerate(truths))


class Counting(unittest.TestCase):
    def holds_to_the_point(self, machine):
        told = counting(machine)
        if calm_plainly(machine):
            self.assertIsNone(told)
            return False
        lean = least_plainly(machine)
        self.assertEqual([type(part) for part in (told,) + told], [tuple, str, str, str, int, tuple])
        start, text, end, first, rest = told
        self.assertLessEqual(set(start + text + end), set(machine[0]))
        self.assertNotEqual(text, "")
        self.assertTrue(0 <= first <= len(lean[1]))
        self.assertEqual({type(truth) for truth in rest}, {bool})
        self.assertGreaterEqual(len(rest), 2)
        self.assertFalse(told_again(rest))
        self.assertTrue(holds_plainly(machine, told), (machine, told))
        self.assertIs(counting_holds(machine, told), True)
        if len(machine[0]) ** len(text) < 3000:
            ahead = [other for other in texts_to(machine[0], len(text))]
            deed = deed_plainly(lean, text)
            self.assertEqual([other for other in ahead if deed_plainly(lean, other) == deed][0], text)
        return True

    def test_calm_machines(self):
        for machine in (ENDS_AB, JUST_AB, EVERY, NONE, chain(60, (3, 59)), ring(6, range(6)), ring(1), JUST_2000,
                        ("a", ((0,), (2,), (1,)), (True, True, False))):
            self.assertIsNone(counting(machine))

    def test_known_machines(self):
        for machine, texts in ((EVEN_A, "ab"), (ring(2), "a"), (ring(6, (0, 2, 4)), "a"), (ring(3, (1,), "ba"), "ba")):
            self.assertTrue(self.holds_to_the_point(machine))
            self.assertLessEqual(set(counting(machine)[1]), set(texts))
        self.assertEqual(len(counting(EVEN_A)[4]), 2)
        self.assertEqual(len(counting(ring(6, (0, 2, 4)))[4]), 2)
        self.assertEqual(len(counting(ring(7))[4]), 7)

    def test_any_machines(self):
        seen = [self.holds_to_the_point(machine) for machine in made_machines(200, 250, 4)]
        self.assertGreater(seen.count(True), 50)
        self.assertGreater(seen.count(False), 80)

    def test_rooms_that_do_not_come_up_and_are_alike(self):
        for seed, machine in enumerate(made_machines(201, 40, 4, ("a", "ba", "cab"))):
            big = blown_up(machine, seed, 40)
            self.assertEqual(counting(big), counting(machine))
            self.holds_to_the_point(big)

    def test_rings_of_up_to_sixty_rooms(self):
        chance = random.Random(202)
        for rooms in (2, 3, 12, 30, 59, 60):
            for yes in ((0,), (rooms - 1,), chance.sample(range(rooms), rooms // 2)):
                for letters in ("a", "dbca"):
                    self.assertTrue(self.holds_to_the_point(ring(rooms, yes, letters)))
        self.assertEqual(len(counting(ring(60))[4]), 60)
        # Yes at each twelfth room: by the least machine, of twelve rooms.
        self.assertEqual(len(counting(ring(60, range(0, 60, 12)))[4]), 12)

    def test_lines_that_lead_to_a_ring(self):
        for line in (1, 2, 20, 57):
            rooms = line + 3
            moves = tuple((room + 1,) for room in range(rooms - 1)) + ((line,),)
            self.assertTrue(self.holds_to_the_point(("a", moves, (False,) * line + (True, False, False))))

    def test_too_many_deeds(self):
        self.assertEqual(refused(self, TooMany, counting, VERY_MANY).at, 0)
        self.assertEqual(refused(self, TooMany, counting, JUST_2001).at, 0)

    def test_what_is_told_is_new_and_stays(self):
        for machine in (EVEN_A, ENDS_AB, ring(5, (1, 2))):
            told = holds_to_point_2(self, counting, machine)
            counting(ring(3))
            refused(self, TooMany, counting, VERY_MANY)
            self.assertEqual(counting(machine), told)


class Holds(unittest.TestCase):
    def test_known_countings(self):
        for told, due in (
                (("", "a", "", 0, (True, False)), True), (("a", "a", "", 0, (False, True)), True),
                (("", "a", "", 1, (False, True)), True), (("", "a", "", 200, (True, False)), True),
                (("bab", "aba", "b", 7, (False, True)), False), (("b", "bab", "bb", 7, (False, True)), True),
                (("", "b", "", 0, (True, False)), False), (("", "aa", "", 0, (True, False)), False),
                (("", "a", "", 0, (False, True)), False), (("", "a", "", 199, (True, False)), False),
                # v without signs; one truth, or none; a shorter tuple again and again.
                (("", "", "", 0, (True, False)), False), (("", "a", "", 0, (True,)), False),
                (("", "b", "", 0, (True,)), False), (("", "b", "", 0, (True, True)), False),
                (("", "a", "", 0, ()), False), (("", "", "", 0, ()), False),
                (("", "a", "", 0, (True, False, True, False)), False), (("", "a", "", 0, (True, False) * 12), False),
                (("", "a", "", 0, (True, False, True)), False)):
            self.assertIs(counting_holds(EVEN_A, told), due, told)

    def test_first_too_small(self):
        # Three rooms, then a ring of three with yes at one, so that noes stand ahead of it.
        machine = ("a", ((1,), (2,), (3,), (4,), (5,), (3,)), (True, False, False, False, False, True))
        for first, rest in ((1, (False, False, False, False, True)), (1, (False, False, True)),
                            (2, (False, False, True)), (0, (True, False, False)), (3, (False, False, True)),
                            (5, (True, False, False)), (4, (False, True, False)), (200, (True, False, False)),
                            (200, (False, False, True))):
            told = ("", "a", "", first, rest)
            self.assertIs(counting_holds(machine, told), holds_plainly(machine, told), told)
        self.assertIs(counting_holds(machine, ("", "a", "", 3, (False, False, True))), True)
        self.assertIs(counting_holds(machine, ("", "a", "", 2, (False, False, True))), False)

    def test_drawn_countings(self):
        chance = random.Random(203)
        seen = []
        for machine in made_machines(204, 300, 6) + [ring(rooms, (0, 1), "ab") for rooms in range(2, 12)]:
            start, text, end = ["".join(chance.choice(machine[0]) for _ in range(chance.randint(0, 4)))
                                for _ in range(3)]
            first = chance.choice((0, 0, 1, 2, 5, 200))
            for count in range(0, 13):
                rest = truths_plainly(machine, start, text, end, first, count)
                turned = rest[:-1] + tuple(not truth for truth in rest[-1:])
                for told in ((start, text, end, first, rest), (start, text, end, first, rest * 2),
                             (start, text, end, first, turned), (start, text, end, max(0, first - 1), rest)):
                    due = holds_plainly(machine, told)
                    seen.append(due)
                    self.assertIs(counting_holds(machine, told), due, (machine, told))
        self.assertGreater(seen.count(True), 20)
        self.assertGreater(seen.count(False), 5000)

    def test_24_truths(self):
        machine = ring(24, (0, 5, 6))
        rest = truths_plainly(machine, "", "a", "", 0, 24)
        self.assertIs(counting_holds(machine, ("", "a", "", 0, rest)), True)
        self.assertIs(counting_holds(machine, ("", "a", "", 48, rest)), True)
        self.assertIs(counting_holds(machine, ("", "a", "", 47, rest)), False)
        for place in range(24):
            turned = rest[:place] + (not rest[place],) + rest[place + 1:]
            self.assertIs(counting_holds(machine, ("", "a", "", 0, turned)), False)
        # v need be no first text: 25 times a does what a does.
        self.assertIs(counting_holds(machine, ("a" * 24, "a" * 25, "a" * 48, 0, rest)), True)
        self.assertIs(counting_holds(ring(60, (0, 7)), ("", "a" * 5, "", 0, (True,) + (False,) * 11)), True)
        self.assertIs(counting_holds(ring(59), ("", "a", "", 0, (True,) + (False,) * 23)), False)

    def test_the_last_of_many_rounds_turns_it(self):
        # A line as long as the rest goes round twenty times, then a room that breaks it.
        yes = tuple(room % 3 == 0 for room in range(59)) + (True,)
        machine = ("a", tuple((min(room + 1, 59),) for room in range(60)), yes)
        self.assertIs(counting_holds(machine, ("", "a", "", 0, (True, False, False))), False)
        self.assertIs(counting_holds(ring(60, range(0, 60, 3)), ("", "a", "", 0, (True, False, False))), True)

    def test_never_refused(self):
        rest = (True,) + (False,) * 8
        self.assertIs(counting_holds(VERY_MANY, ("", "a", "", 0, rest)), True)
        self.assertIs(counting_holds(VERY_MANY, ("b", "a", "", 0, rest)), False)
        self.assertIs(counting_holds(VERY_MANY, ("", "b", "", 0, (True, False))), True)
        self.assertIs(counting_holds(JUST_2001, ("", "a", "", 0, (True, False))), False)

    def test_what_is_handed_in_stays(self):
        holds_to_point_2(self, counting_holds, EVEN_A, ("", "a", "", 0, (True, False)))
        holds_to_point_2(self, counting_holds, EVEN_A, ("", "a", "", 1, (True, False)))


if __name__ == "__main__":
    unittest.main()
