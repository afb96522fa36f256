"""Point 12: behind, about, begun, ended."""

import inspect
import random
import unittest

from calmword.errors import OtherLetters, TooMany
from calmword.joined import no_of
from calmword.least import least
from calmword.strung import about_of, begun, behind_of, ended
from samples import ENDS_AB, EVEN_A, EVERY, JUST_AB, NONE, about_rooms, behind_rooms, blown_up, chain, first_apart
from samples import holds_to_point_2, least_plainly, made_machine, made_machines, made_pairs, read_plainly, refused
from samples import ring, rooms_come_up, texts_of, texts_to

BLANK = ("ab", ((1, 1), (1, 1)), (True, False))


def far_from_the_end(signs):
    """Texts over a, b whose sign so many places from the end is a: turned about few rooms, itself very many."""
    rooms = signs + 2
    moves = [(room + 1, room + 1) for room in range(signs - 1)] + [(signs, signs + 1)]
    moves += [(room, room) for room in range(signs, rooms)]
    return ("ab", tuple(moves), tuple(room == signs for room in range(rooms)))


def told_ones(seed):
    """Answers of each function here, by name, for some machines."""
    for one, other in made_pairs(seed, 25, 4):
        chance = random.Random(len(one[1]))
        text = "".join(chance.choice(one[0]) for _ in range(3))
        yield behind_of(one, other)
        yield about_of(one)
        yield begun(one, text)
        yield ended(one, text)


class Behind(unittest.TestCase):
    def test_ordinary_machines(self):
        self.assertEqual(behind_of(EVERY, JUST_AB), ENDS_AB)
        self.assertEqual(behind_of(BLANK, EVEN_A), EVEN_A)
        self.assertEqual(behind_of(EVEN_A, BLANK), EVEN_A)
        self.assertEqual(behind_of(NONE, EVERY), NONE)
        self.assertEqual(behind_of(EVERY, NONE), NONE)
        self.assertEqual(behind_of(EVERY, EVERY), EVERY)
        self.assertEqual(behind_of(BLANK, BLANK), BLANK)
        self.assertEqual(texts_of(behind_of(JUST_AB, JUST_AB), 6), ["abab"])

    def test_some_cut_is_let_by_on_both_sides(self):
        for one, other in made_pairs(60, 60, 4):
            told = behind_of(one, other)
            left = set(texts_of(one, 5))
            right = set(texts_of(other, 5))
            for text in texts_to(one[0], 5):
                cut = any(text[:at] in left and text[at:] in right for at in range(len(text) + 1))
                self.assertEqual(read_plainly(told, text), cut, (one, other, text))

    def test_the_order_of_both_matters(self):
        a = ("ab", ((1, 2), (2, 2), (2, 2)), (False, True, False))
        b = ("ab", ((2, 1), (2, 2), (2, 2)), (False, True, False))
        self.assertEqual(texts_of(behind_of(a, b), 4), ["ab"])
        self.assertEqual(texts_of(behind_of(b, a), 4), ["ba"])

    def test_three_in_a_row(self):
        for one, other in made_pairs(61, 20, 3):
            left = behind_of(behind_of(one, other, 9999), one, 9999)
            self.assertEqual(left, behind_of(one, behind_of(other, one, 9999), 9999))

    def test_too_many_from_one_more_than_most_on(self):
        for one, other in made_pairs(62, 40, 5):
            count = behind_rooms(one, other)
            told = behind_of(one, other, count)
            self.assertEqual(told, behind_of(one, other, count + 1))
            for most in {1, count // 2, count - 1} - {0, count}:
                self.assertEqual(refused(self, TooMany, behind_of, one, other, most).at, 0)

    def test_rooms_are_counted_ahead_of_making_them_least(self):
        # Of the first's three rooms each comes up, though no text is let by.
        three = ring(3, (0,), "ab")
        self.assertEqual(refused(self, TooMany, behind_of, three, NONE, 2).at, 0)
        self.assertEqual(behind_of(three, NONE, 3), NONE)
        # (0, (0,)) is the one room of every and every; of every and blank there are two.
        self.assertEqual(behind_of(EVERY, EVERY, 1), EVERY)
        self.assertEqual(behind_of(EVERY, BLANK, 2), EVERY)
        refused(self, TooMany, behind_of, EVERY, BLANK, 1)
        # Where the first lets nothing by, nothing of the second begins: (0, ()) stays alone.
        self.assertEqual(behind_of(NONE, ring(7, (0,), "ab"), 1), NONE)

    def test_they_are_made_of_the_least_ones(self):
        self.assertEqual(behind_of(blown_up(EVERY, 1, 60), blown_up(EVERY, 2, 60), 1), EVERY)
        self.assertEqual(behind_of(blown_up(NONE, 3, 60), blown_up(ENDS_AB, 4, 60), 1), NONE)
        self.assertEqual(behind_of(blown_up(EVERY, 5, 60), blown_up(JUST_AB, 6, 60), behind_rooms(EVERY, JUST_AB)),
                         ENDS_AB)

    def test_most_left_out_is_400(self):
        none = ring(1, ())
        self.assertEqual(behind_of(ring(400), none), none)
        self.assertEqual(refused(self, TooMany, behind_of, ring(401), none).at, 0)
        self.assertEqual(inspect.signature(behind_of).parameters["most"].default, 400)
        self.assertEqual(list(inspect.signature(behind_of).parameters), ["one", "other", "most"])
        self.assertEqual(behind_of(ring(401), none, most=401), none)

    def test_other_letters_go_ahead_of_too_many(self):
        for letters in ("ba", "ac", "a", "abc"):
            refused(self, OtherLetters, behind_of, EVEN_A, ring(3, (0,), letters))
            refused(self, OtherLetters, behind_of, ring(3, (0,), letters), EVEN_A, 1)
            refused(self, OtherLetters, behind_of, NONE, ring(1, (), letters), 1)

    def test_sixty_rooms(self):
        told = behind_of(ring(60), ring(59), 9999)
        self.assertEqual(len(told[1]), 59 * 58 + 1)
        self.assertEqual([n for n in range(200) if read_plainly(told, "a" * n)],
                         sorted({60 * i + 59 * j for i in range(4) for j in range(4) if 60 * i + 59 * j < 200}))
        line = behind_of(chain(60, (58,), "dbca"), chain(60, (58,), "dbca"))
        self.assertEqual(line, chain(118, (116,), "dbca"))


class About(unittest.TestCase):
    def test_ordinary_machines(self):
        self.assertEqual(about_of(EVEN_A), EVEN_A)
        self.assertEqual(about_of(NONE), NONE)
        self.assertEqual(about_of(EVERY), EVERY)
        self.assertEqual(about_of(BLANK), BLANK)
        self.assertEqual(texts_of(about_of(JUST_AB), 4), ["ba"])
        self.assertEqual(texts_of(about_of(ENDS_AB), 3), ["ba", "baa", "bab"])

    def test_just_the_texts_turned_about(self):
        for machine in made_machines(63, 80, 5):
            told = about_of(machine)
            for text in texts_to(machine[0], 5):
                self.assertEqual(read_plainly(told, text), read_plainly(machine, text[::-1]), (machine, text))

    def test_about_of_about_is_the_least_machine(self):
        for machine in made_machines(64, 80, 6):
            self.assertEqual(about_of(about_of(machine, 9999), 9999), least_plainly(machine))

    def test_too_many_from_one_more_than_most_on(self):
        for machine in made_machines(65, 60, 6):
            count = about_rooms(machine)
            self.assertEqual(about_of(machine, count), about_of(machine, count + 1))
            for most in {1, count // 2, count - 1} - {0, count}:
                self.assertEqual(refused(self, TooMany, about_of, machine, most).at, 0)

    def test_the_rooms_that_come_up_are_told_by_the_point(self):
        # Rooms with yes: (2,); by b, from 1, to (1,); by a to (): four rooms with (0,).
        self.assertEqual(about_rooms(JUST_AB), 4)
        refused(self, TooMany, about_of, JUST_AB, 3)
        self.assertEqual(len(about_of(JUST_AB, 4)[1]), 4)
        # The tuple without rooms is the first of none, and leads to itself.
        self.assertEqual(about_of(NONE, 1), NONE)
        self.assertEqual(about_of(EVERY, 1), EVERY)

    def test_they_are_made_of_the_least_ones(self):
        self.assertEqual(about_of(blown_up(EVERY, 1, 60), 1), EVERY)
        self.assertEqual(about_of(blown_up(JUST_AB, 2, 60), 4), about_of(JUST_AB))

    def test_most_left_out_is_400(self):
        self.assertEqual(about_of(ring(400)), ring(400))
        self.assertEqual(refused(self, TooMany, about_of, ring(401)).at, 0)
        self.assertEqual(about_of(ring(401), most=401), ring(401))
        self.assertEqual(list(inspect.signature(about_of).parameters), ["machine", "most"])

    def test_few_rooms_may_become_very_many(self):
        few = far_from_the_end(9)
        many = about_of(few, 1024)
        self.assertEqual(len(many[1]), 512)
        self.assertEqual(about_of(many), few)
        self.assertEqual(refused(self, TooMany, about_of, few).at, 0)
        self.assertEqual(refused(self, TooMany, about_of, far_from_the_end(57)).at, 0)


class BegunAndEnded(unittest.TestCase):
    def test_ordinary_machines(self):
        self.assertEqual(begun(EVEN_A, "a"), no_of(EVEN_A))
        self.assertEqual(ended(EVEN_A, "ba"), no_of(EVEN_A))
        self.assertEqual(begun(JUST_AB, "ab"), BLANK)
        self.assertEqual(ended(JUST_AB, "ab"), BLANK)
        self.assertEqual(begun(JUST_AB, "b"), NONE)
        self.assertEqual(ended(ENDS_AB, "bab"), EVERY)
        self.assertEqual(begun(ENDS_AB, "bab"), ("ab", ((1, 2), (1, 0), (1, 2)), (True, False, False)))

    def test_the_texts_that_are_let_by_behind_and_ahead(self):
        chance = random.Random(66)
        for machine in made_machines(67, 60, 5):
            text = "".join(chance.choice(machine[0]) for _ in range(chance.randint(0, 4)))
            for rest in texts_to(machine[0], 4):
                self.assertEqual(read_plainly(begun(machine, text), rest), read_plainly(machine, text + rest))
                self.assertEqual(read_plainly(ended(machine, text), rest), read_plainly(machine, rest + text))

    def test_the_text_without_signs(self):
        for machine in made_machines(68, 30, 9):
            self.assertEqual(begun(machine, ""), least_plainly(machine))
            self.assertEqual(ended(machine, ""), least_plainly(machine))

    def test_two_texts_one_behind_the_other(self):
        for machine in made_machines(69, 25, 7):
            for one in texts_to(machine[0], 2):
                for other in texts_to(machine[0], 1):
                    self.assertEqual(begun(begun(machine, one), other), begun(machine, one + other))
                    self.assertEqual(ended(ended(machine, one), other), ended(machine, other + one))

    def test_never_refused(self):
        for machine in (ring(60), ring(1000), ring(60, (7,), "dbca"), blown_up(ENDS_AB, 1, 60)):
            text = machine[0] * (60 // len(machine[0]))
            self.assertEqual(least(begun(machine, text)), begun(machine, text))
            self.assertEqual(least(ended(machine, text)), ended(machine, text))
        self.assertEqual(begun(ring(1000), "a" * 60), ring(1000, (940,)))
        self.assertEqual(ended(ring(1000), "a" * 60), ring(1000, (940,)))
        for function in (begun, ended):
            self.assertEqual(list(inspect.signature(function).parameters), ["machine", "text"])


class AllOfThem(unittest.TestCase):
    def test_least_machines_are_told(self):
        for told in told_ones(70):
            self.assertEqual(told, least_plainly(told))
            self.assertEqual(rooms_come_up(told), list(range(len(told[1]))))

    def test_the_kinds_of_what_is_told(self):
        for told in told_ones(71):
            letters, moves, yes = told
            self.assertEqual((type(letters), type(moves), type(yes)), (str, tuple, tuple))
            self.assertEqual({type(row) for row in moves}, {tuple})
            self.assertEqual({type(answer) for answer in yes}, {bool})

    def test_turned_about_the_second_goes_first(self):
        for one, other in made_pairs(72, 30, 3):
            self.assertEqual(about_of(behind_of(one, other), 9999),
                             behind_of(about_of(other), about_of(one), 9999))
            self.assertEqual(about_of(begun(one, one[0])), ended(about_of(one), one[0][::-1]))

    def test_what_was_told_may_be_handed_on_whatever_its_size(self):
        great = about_of(far_from_the_end(11), 4096)
        self.assertEqual(len(great[1]), 2048)
        self.assertEqual(about_of(great), far_from_the_end(11))
        self.assertIsNone(first_apart(begun(great, ""), great))
        self.assertEqual(ended(great, "a" + "b" * 10), EVERY)
        self.assertEqual(behind_of(great, NONE, 4096), NONE)
        self.assertEqual(begun(great, "b" * 11), great)

    def test_what_is_told_is_new_and_stays(self):
        chance = random.Random(73)
        sixty = made_machine(chance, "ba", 60)
        for things in ((behind_of, EVEN_A, ENDS_AB), (about_of, ENDS_AB), (begun, JUST_AB, "a"), (ended, JUST_AB, "b"),
                       (begun, sixty, "ab" * 30), (ended, sixty, "ab" * 30)):
            told = holds_to_point_2(self, *things)
            refused(self, TooMany, behind_of, ring(3), ring(5), 1)
            refused(self, TooMany, about_of, ring(3), 1)
            self.assertEqual(things[0](*things[1:]), told)


if __name__ == "__main__":
    unittest.main()
