"""Points 30, 31 and 32: expressions of machines and of sayings, and what is told of machines."""

import unittest

from calmword.countings import counting, counting_holds
from calmword.deeds import calm
from calmword.errors import NotCalm, NotClosed, TooMany
from calmword.expressiontexts import read_expression, show_expression
from calmword.grounds import expression_of, expression_of_saying, told
from calmword.made import machine_of
from calmword.saymade import saying_machine
from calmword.sayings_of import saying_of
from calmword.sayingtexts import read_saying, show_saying
from calmsamples import HARD, all_machines, calm_plainly, drawn_machines, holds_of_the_machine, tells_the_machine
from calmsamples import within_bounds
from samples import ENDS_AB, EVEN_A, EVERY, JUST_2001, JUST_AB, NONE, VERY_MANY, blown_up, chain, holds_to_point_2
from samples import least_plainly, made_machines, refused, ring
from saysamples import A_AHEAD_OF_B, EACH_A, FIRST_A, OVER_400, SOME_PLACE, X_A, X_Y, YES, at_least, behind_rows
from saysamples import made_sayings, names_by_row

NOT_CALM = (EVEN_A, ring(2), ring(3, (0, 1)), ring(4, (0, 2)), ring(3, (1,), "cab"),
            ("ab", ((1, 0), (0, 2), (2, 2)), (True, False, False)))


def within(machine):
    """Whether the least machine lies within the bounds of point 30."""
    rooms = len(least_plainly(machine)[1])
    return (rooms <= 3 and len(machine[0]) <= 3) or (rooms <= 4 and len(machine[0]) <= 2)


class ExpressionOf(unittest.TestCase):
    def test_known_machines(self):
        for machine, text in ((NONE, "0"), (EVERY, "-0"), (("a", ((1,), (1,)), (True, False)), "."),
                              (("ab", ((0, 1), (0, 1)), (False, True)), "-0b")):
            self.assertEqual(machine_of(machine[0], read_expression(text)), machine)
            tells_the_machine(self, machine, expression_of(machine))

    def test_all_machines_of_at_most_two_rooms(self):
        seen = 0
        for rooms in (1, 2):
            for letters in ("a", "ba", "cab"):
                for machine in all_machines(letters, rooms):
                    if not calm_plainly(machine):
                        refused(self, NotCalm, expression_of, machine)
                        continue
                    seen += 1
                    told_of = expression_of(machine)
                    tells_the_machine(self, machine, told_of)
                    text = show_expression(told_of)
                    self.assertLessEqual(len(text), 100000)
                    self.assertEqual(read_expression(text), told_of)
        self.assertEqual(seen, 3 * 2 + 2 + 10 + 38)

    def test_all_machines_of_three_rooms_and_two_letters(self):
        seen = 0
        for machine in all_machines("ab", 3):
            if calm_plainly(machine):
                seen += 1
                tells_the_machine(self, machine, expression_of(machine))
        self.assertEqual(seen, 162)

    def test_machines_within_the_bounds(self):
        for machine in within_bounds(210):
            tells_the_machine(self, machine, expression_of(machine))

    def test_rooms_that_do_not_come_up_and_are_alike(self):
        for seed, machine in enumerate(drawn_machines(211, 15, 3, "cab") + drawn_machines(212, 15, 4, "ba")):
            big = blown_up(machine, seed, 60)
            tells_the_machine(self, big, expression_of(big))
            self.assertEqual(expression_of(big), expression_of(machine))
        # Yes everywhere, nowhere; a ring that doesn't come up.
        for machine in (ring(6, range(6), "ab"), ring(6, (), "cab"), ("a", ((0,), (2,), (1,)), (True, True, False))):
            tells_the_machine(self, machine, expression_of(machine))

    def test_resetting_letters(self):
        # Each letter leads all rooms to one; and so but for one letter that leaves them as they are.
        for letters, row in (("ab", (0, 1)), ("cab", (1, 2, 0)), ("ba", (1, 0))):
            for yes in ((True, False, False), (False, True, True), (True, False, True)):
                machine = (letters, (row,) * 3, yes)
                tells_the_machine(self, machine, expression_of(machine))
                staying = (letters, tuple((room,) + row[1:] for room in range(3)), yes)
                tells_the_machine(self, staying, expression_of(staying))

    def test_lines(self):
        for machine in (chain(4, (3,), "ab"), chain(4, (0, 2), "ba"), chain(3, (1,), "cab"), JUST_AB, ENDS_AB):
            tells_the_machine(self, machine, expression_of(machine))

    def test_somewhat_beyond_the_bounds(self):
        for rooms, letters in ((3, "dbca"), (4, "cab"), (5, "ba")):
            for machine in drawn_machines(213, 3, rooms, letters):
                tells_the_machine(self, machine, expression_of(machine))
        tells_the_machine(self, chain(9, (3, 7)), expression_of(chain(9, (3, 7))))

    def test_not_calm(self):
        for machine in NOT_CALM:
            refused(self, NotCalm, expression_of, machine)
        for machine in drawn_machines(214, 20, 3, "cab", is_calm=False) + drawn_machines(215, 20, 4, "ba", False):
            refused(self, NotCalm, expression_of, machine)
            refused(self, NotCalm, expression_of, blown_up(machine, 1, 20))

    def test_more_than_2000_deeds(self):
        for machine in (VERY_MANY, JUST_2001):
            self.assertEqual(refused(self, TooMany, expression_of, machine).at, 0)

    def test_what_is_told_may_be_handed_on(self):
        for machine in HARD:
            told_of = expression_of(machine)
            holds_of_the_machine(self, machine, saying_of(machine[0], told_of), 4)

    def test_what_is_told_is_new_and_stays(self):
        for machine in (ENDS_AB, JUST_AB, EVERY) + HARD[:2]:
            told_of = holds_to_point_2(self, expression_of, machine)
            refused(self, NotCalm, expression_of, EVEN_A)
            expression_of(HARD[2])
            self.assertEqual(expression_of(machine), told_of)


class ExpressionOfSaying(unittest.TestCase):
    def test_known_sayings(self):
        for saying in ((YES,), (YES, ("not", 0)), SOME_PLACE, EACH_A, FIRST_A, A_AHEAD_OF_B, at_least("a", 3)):
            for letters in ("ab", "ba"):
                tells_the_machine(self, saying_machine(letters, saying), expression_of_saying(letters, saying))

    def test_drawn_sayings(self):
        seen = 0
        for letters, saying in made_sayings(216, 500, 14):
            if names_by_row(saying)[-1]:
                names = names_by_row(saying)[-1]
                self.assertEqual(refused(self, NotClosed, expression_of_saying, letters, saying).names, names)
            elif within(saying_machine(letters, saying)):
                seen += 1
                tells_the_machine(self, saying_machine(letters, saying), expression_of_saying(letters, saying))
        self.assertGreater(seen, 80)

    def test_too_many_with_the_row(self):
        last = len(OVER_400) - 1
        self.assertEqual(refused(self, TooMany, expression_of_saying, "ab", OVER_400).at, last)
        # Needed or not; and ahead of that it is told that a saying isn't closed.
        self.assertEqual(refused(self, TooMany, expression_of_saying, "ab", OVER_400 + (YES,)).at, last)
        error = refused(self, NotClosed, expression_of_saying, "ab", OVER_400 + (X_A, X_Y, ("or", last + 1, last + 2)))
        self.assertEqual(error.names, ("x", "y"))

    def test_just_400_rooms_are_made(self):
        # 20 times 20 rooms come up at a row that isn't needed.
        just = behind_rows(at_least("a", 19), at_least("b", 19))
        just += (("and", len(at_least("a", 19)) - 1, len(just) - 1), YES)
        tells_the_machine(self, EVERY, expression_of_saying("ab", just))

    def test_what_is_told_is_new_and_stays(self):
        for saying in (A_AHEAD_OF_B, FIRST_A, EACH_A):
            told_of = holds_to_point_2(self, expression_of_saying, "ab", saying)
            refused(self, NotClosed, expression_of_saying, "ab", (X_A,))
            self.assertEqual(expression_of_saying("ab", saying), told_of)


class Told(unittest.TestCase):
    def test_calm_machines(self):
        for machine in within_bounds(217):
            answer = told(machine)
            self.assertIs(type(answer), tuple)
            self.assertEqual((len(answer), answer[0]), (3, "calm"))
            tells_the_machine(self, machine, answer[1])
            holds_of_the_machine(self, machine, answer[2], 5 if len(machine[0]) == 2 else 4)

    def test_all_machines_of_at_most_two_rooms(self):
        for rooms in (1, 2):
            for letters in ("a", "ba", "cab"):
                for machine in all_machines(letters, rooms):
                    answer = told(machine)
                    if calm_plainly(machine):
                        self.assertEqual((len(answer), answer[0]), (3, "calm"))
                        tells_the_machine(self, machine, answer[1])
                        holds_of_the_machine(self, machine, answer[2], 3)
                    else:
                        self.assertEqual((len(answer), answer[0]), (2, "counting"))

    def test_countings(self):
        drawn = drawn_machines(218, 20, 3, "cab", False) + drawn_machines(219, 20, 4, "ba", False)
        for machine in list(NOT_CALM) + drawn:
            answer = told(machine)
            self.assertIs(type(answer), tuple)
            self.assertEqual(answer, ("counting", counting(machine)))
            self.assertIs(counting_holds(machine, answer[1]), True)

    def test_either_of_both(self):
        for machine in made_machines(220, 60, 3, ("a", "ba", "cab")):
            self.assertEqual(told(machine)[0], "calm" if calm_plainly(machine) else "counting")
            self.assertEqual(calm(machine), calm_plainly(machine))

    def test_more_than_2000_deeds(self):
        for machine in (VERY_MANY, JUST_2001):
            self.assertEqual(refused(self, TooMany, told, machine).at, 0)

    def test_what_is_told_may_be_handed_on(self):
        for machine in drawn_machines(221, 6, 3, "ab"):
            _, expression, saying = told(machine)
            self.assertEqual(read_expression(show_expression(expression)), expression)
            self.assertEqual(read_saying(show_saying(saying)), saying)

    def test_what_is_told_is_new_and_stays(self):
        for machine in (ENDS_AB, EVEN_A, JUST_AB, HARD[0]):
            answer = holds_to_point_2(self, told, machine)
            told(HARD[3])
            refused(self, TooMany, told, VERY_MANY)
            self.assertEqual(told(machine), answer)


if __name__ == "__main__":
    unittest.main()
