"""Points 27 and 28: deeds, what tells them apart, and when they come to a stand."""

import inspect
import itertools
import random
import unittest

from calmword.deeds import calm, deed_of, deeds, put, stand_of, told_apart
from calmword.errors import TooMany
from calmword.machines import lets
from samples import ENDS_AB, EVEN_A, EVERY, JUST_2000, JUST_2001, JUST_AB, NONE, VERY_MANY, blown_up, chain
from samples import deed_plainly, holds_to_point_2, least_plainly, made_machines, read_plainly, refused, ring
from samples import stand_plainly, texts_to


def deeds_plainly(machine, most_signs):
    """By walking all texts in their order: each deed with its first text, and whether the longest ones did nothing new.
    """
    lean = least_plainly(machine)
    found = {}
    for text in texts_to(machine[0], most_signs):
        found.setdefault(deed_plainly(lean, text), text)
    texts = list(found.values())
    return [(text, deed) for deed, text in found.items()], len(texts[-1]) < most_signs


class Deeds(unittest.TestCase):
    def test_known_machines(self):
        self.assertEqual(deeds(EVEN_A), [("", (0, 1)), ("a", (1, 0))])
        self.assertEqual(deeds(EVERY), [("", (0,))])
        self.assertEqual(deeds(ENDS_AB), [("", (0, 1, 2)), ("a", (1, 1, 1)), ("b", (0, 2, 0)), ("ab", (2, 2, 2)),
                                          ("bb", (0, 0, 0))])
        self.assertEqual(deeds(JUST_AB), [("", (0, 1, 2, 3)), ("a", (1, 2, 2, 2)), ("b", (2, 3, 2, 2)),
                                          ("aa", (2, 2, 2, 2)), ("ab", (3, 2, 2, 2))])
        self.assertEqual(deeds(ring(3)), [("", (0, 1, 2)), ("a", (1, 2, 0)), ("aa", (2, 0, 1))])

    def test_by_the_order_of_the_letters(self):
        self.assertEqual(deeds(("ba", ((1, 0), (1, 0)), (False, True))), [("", (0, 1)), ("b", (1, 1)), ("a", (0, 0))])

    def test_any_machines(self):
        walked = 0
        for machine in made_machines(180, 150, 4, ("a", "ba", "ab")) + made_machines(181, 40, 3, ("cab",)):
            due, whole = deeds_plainly(machine, 11 if len(machine[0]) == 2 else 7)
            told = deeds(machine, 5000)
            if whole:
                walked += 1
                self.assertEqual(told, due)
            self.assertEqual(told[:len(due)], due)
        self.assertGreater(walked, 120)

    def test_each_once_and_no_deed_is_left_out(self):
        for machine in made_machines(182, 60, 5):
            told = deeds(machine, 9999)
            lean = least_plainly(machine)
            found = {deed: text for text, deed in told}
            self.assertEqual(len(found), len(told))
            self.assertEqual(told[0], ("", tuple(range(len(lean[1])))))
            for text, deed in told:
                self.assertEqual(deed_plainly(lean, text), deed)
                for letter in machine[0]:
                    self.assertIn(deed_plainly(lean, text + letter), found)

    def test_rooms_that_do_not_come_up_and_are_alike(self):
        for seed, machine in enumerate(made_machines(183, 40, 4)):
            big = blown_up(machine, seed, 30)
            self.assertEqual(deeds(big), deeds(machine))

    def test_too_many(self):
        for machine in [EVEN_A, ENDS_AB, JUST_AB, ring(7), EVERY] + made_machines(184, 40, 4):
            told = deeds(machine)
            self.assertEqual(deeds(machine, len(told)), told)
            self.assertEqual(deeds(machine, most=len(told) + 1), told)
            for most in sorted({1, 2, 3, len(told) // 2, len(told) - 1}):
                if 0 < most < len(told):
                    self.assertEqual(refused(self, TooMany, deeds, machine, most).at, 0)

    def test_most_left_out_is_2000(self):
        self.assertEqual(inspect.signature(deeds).parameters["most"].default, 2000)
        self.assertEqual(len(deeds(JUST_2000)), 2000)
        self.assertEqual(refused(self, TooMany, deeds, JUST_2000, 1999).at, 0)
        self.assertEqual(refused(self, TooMany, deeds, JUST_2001).at, 0)
        self.assertEqual(len(deeds(JUST_2001, 2001)), 2001)
        self.assertEqual(refused(self, TooMany, deeds, VERY_MANY).at, 0)
        # 60 rooms, of which all texts make less than 2,000 deeds.
        self.assertEqual(len(deeds(ring(60, (0,), "dbca"))), 60)
        self.assertEqual(deeds(ring(60))[59], ("a" * 59, (59,) + tuple(range(59))))

    def test_the_kinds_of_what_is_told(self):
        for machine in (EVEN_A, JUST_AB, ring(5)):
            told = deeds(machine)
            self.assertIs(type(told), list)
            for row in told:
                self.assertEqual([type(part) for part in (row,) + row], [tuple, str, tuple])

    def test_what_is_told_is_new_and_stays(self):
        for machine in (EVEN_A, ENDS_AB, ring(4)):
            told = holds_to_point_2(self, deeds, machine)
            refused(self, TooMany, deeds, VERY_MANY)
            self.assertEqual(deeds(machine), told)


class DeedOf(unittest.TestCase):
    def test_by_texts(self):
        for machine in made_machines(185, 60, 5):
            lean = least_plainly(machine)
            for text in texts_to(machine[0], 3) + [machine[0] * 15]:
                self.assertEqual(deed_of(machine, text), deed_plainly(lean, text))

    def test_the_text_without_signs(self):
        for machine in (EVEN_A, ENDS_AB, JUST_AB, ring(60)):
            self.assertEqual(deed_of(machine, ""), tuple(range(len(least_plainly(machine)[1]))))

    def test_one_text_behind_the_other(self):
        for machine in made_machines(186, 40, 5):
            for one, other in itertools.product(texts_to(machine[0], 2), repeat=2):
                self.assertEqual(deed_of(machine, one + other), put(deed_of(machine, one), deed_of(machine, other)))

    def test_what_is_told_is_new_and_stays(self):
        holds_to_point_2(self, deed_of, ENDS_AB, "ab")
        holds_to_point_2(self, put, (1, 0, 2), (2, 2, 0))


class Put(unittest.TestCase):
    def test_any_two(self):
        self.assertEqual(put((0,), (0,)), (0,))
        self.assertEqual(put((1, 2, 0), (0, 0, 2)), (0, 2, 0))
        self.assertEqual(put((0, 0, 2), (1, 2, 0)), (1, 1, 0))
        chance = random.Random(187)
        for count in (1, 2, 3, 12, 59, 60):
            one, other = [tuple(chance.randrange(count) for _ in range(count)) for _ in range(2)]
            told = put(one, other)
            self.assertIs(type(told), tuple)
            self.assertEqual([told[room] for room in range(count)], [other[one[room]] for room in range(count)])


class ToldApart(unittest.TestCase):
    def test_any_two_unlike_deeds(self):
        pairs = 0
        for machine in [ENDS_AB, EVEN_A, JUST_AB] + made_machines(188, 40, 4) + [
                blown_up(machine, 5, 20) for machine in made_machines(189, 10, 4)]:
            told = deeds(machine, 5000)
            for one, other in list(itertools.permutations(told, 2))[:200]:
                pairs += 1
                ends = told_apart(machine, one[1], other[1])
                self.assertEqual([type(part) for part in (ends,) + ends], [tuple, str, str])
                before, behind = ends
                self.assertNotEqual(read_plainly(machine, before + one[0] + behind),
                                    read_plainly(machine, before + other[0] + behind), (machine, one, other))
        self.assertGreater(pairs, 1000)

    def test_many_rooms(self):
        machine = ring(60, (7,))
        before, behind = told_apart(machine, deed_of(machine, "a"), deed_of(machine, "a" * 59))
        self.assertNotEqual(lets(machine, before + "a" + behind), lets(machine, before + "a" * 59 + behind))

    def test_what_is_told_is_new_and_stays(self):
        holds_to_point_2(self, told_apart, ENDS_AB, (0, 1, 2), (1, 1, 1))


class StandOf(unittest.TestCase):
    def test_known_deeds(self):
        for deed, stand in (
                ((0,), 1), ((0, 1, 2), 1), ((0, 0), 1), ((1, 1), 1), ((1, 0), None), ((1, 2, 2), 2), ((1, 2, 0), None),
                ((2, 0, 2), 2), ((1, 2, 3, 3), 3), ((1, 0, 2), None), ((1, 2, 1), None), ((3, 3, 3, 3), 1),
                (tuple(range(1, 12)) + (11,), 11), (tuple(range(1, 12)) + (0,), None), ((0,) * 12, 1)):
            self.assertEqual(stand_of(deed), stand, deed)

    def test_all_of_few_and_any_of_up_to_twelve(self):
        chance = random.Random(190)
        drawn = [deed for count in (1, 2, 3, 4) for deed in itertools.product(range(count), repeat=count)]
        for _ in range(600):
            count = chance.randint(5, 12)
            drawn.append(tuple(chance.randrange(count) for _ in range(count)))
            # Those that lead to a room ahead, or to themselves, come to a stand.
            drawn.append(tuple(chance.randint(max(0, room - 2), room) for room in range(count)))
        stands = []
        for deed in drawn:
            stands.append(stand_of(deed))
            self.assertEqual(stands[-1], stand_plainly(deed), deed)
        self.assertGreater(stands.count(None), 300)
        self.assertGreater(len(set(stands)), 6)

    def test_deeds_of_sixty_rooms(self):
        self.assertEqual(stand_of(tuple(range(1, 60)) + (59,)), 59)
        self.assertIsNone(stand_of(tuple(range(1, 60)) + (58,)))
        self.assertEqual([stand_of(deed) for _, deed in deeds(chain(60, (59,)))][:3], [1, 59, 30])

    def test_what_is_handed_in_stays(self):
        holds_to_point_2(self, stand_of, (1, 2, 2))
        holds_to_point_2(self, stand_of, (1, 0))


class Calm(unittest.TestCase):
    def test_known_machines(self):
        for machine in (ENDS_AB, JUST_AB, EVERY, NONE, chain(60, (3, 59)), chain(5, (0, 2), "dbca"), ring(1)):
            self.assertIs(calm(machine), True)
        for machine in (EVEN_A, ring(2), ring(3), ring(60), ring(4, (0, 2)), ring(6, (1, 2), "ab"),
                        ("ab", ((1, 0), (0, 2), (2, 2)), (True, False, False))):
            self.assertIs(calm(machine), False)

    def test_just_where_all_deeds_come_to_a_stand(self):
        seen = []
        for machine in made_machines(191, 250, 4):
            due = all(stand_plainly(deed) is not None for _, deed in deeds(machine, 5000))
            seen.append(due)
            self.assertIs(calm(machine), due)
        self.assertGreater(seen.count(True), 50)
        self.assertGreater(seen.count(False), 50)

    def test_rooms_that_do_not_come_up_and_are_alike(self):
        # A ring that doesn't come up; a ring of rooms that are alike; one with yes at each second room.
        self.assertIs(calm(("a", ((0,), (2,), (1,)), (True, True, False))), True)
        self.assertIs(calm(ring(6, range(6))), True)
        self.assertIs(calm(ring(6, ())), True)
        self.assertIs(calm(ring(2, (0, 1), "ab")), True)
        self.assertIs(calm(ring(6, (0, 2, 4))), False)
        for seed, machine in enumerate(made_machines(192, 60, 4)):
            self.assertIs(calm(blown_up(machine, seed, 25)), calm(machine))

    def test_two_thousand_deeds(self):
        self.assertIs(calm(JUST_2000), True)
        self.assertEqual(refused(self, TooMany, calm, JUST_2001).at, 0)
        self.assertEqual(refused(self, TooMany, calm, VERY_MANY).at, 0)
        self.assertIs(calm(blown_up(JUST_2000, 3, 60)), True)

    def test_what_is_told_stays(self):
        for machine in (EVEN_A, ENDS_AB):
            told = holds_to_point_2(self, calm, machine)
            refused(self, TooMany, calm, VERY_MANY)
            self.assertIs(calm(machine), told)


if __name__ == "__main__":
    unittest.main()
