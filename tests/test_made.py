"""Point 16: machines of expressions."""

import inspect
import unittest

from calmword.errors import TooMany
from calmword.expressions import tells, tidied
from calmword.machines import look_machine
from calmword.made import machine_of
from samples import ENDS_AB, EVERY, JUST_AB, NONE, chain, holds_to_point_2, least_plainly, read_plainly, refused
from samples import texts_of, texts_to
from tellings import A, ALL, B, BEGINS_A, BLANK, HAS_AB, NO_B, NOTHING, doubled, machines_by_row, made_expressions


class MachineOf(unittest.TestCase):
    def test_each_kind_of_row(self):
        for expression, machine in (
                ((NOTHING,), NONE), ((NOTHING, ("not", 0)), EVERY), ((BLANK,), ("ab", ((1, 1), (1, 1)), (True, False))),
                ((A,), ("ab", ((1, 2), (2, 2), (2, 2)), (False, True, False))),
                ((B,), ("ab", ((1, 2), (1, 1), (1, 1)), (False, False, True))),
                ((A, B, ("behind", 0, 1)), least_plainly(JUST_AB)), ((A, B, ("and", 0, 1)), NONE),
                ((A, B, ("or", 0, 1)), ("ab", ((1, 1), (2, 2), (2, 2)), (False, True, False))),
                ((NOTHING, ("not", 0), A, B, ("behind", 1, 2), ("behind", 4, 3)), ENDS_AB)):
            self.assertEqual(machine_of("ab", expression), machine, expression)

    def test_each_order_of_letters(self):
        for letters in ("a", "ab", "ba", "cab", "dcba", "xayb"):
            for row in [NOTHING, BLANK] + [("letter", sign) for sign in letters]:
                texts = {"nothing": [], "blank": [""], "letter": list(row[1:])}[row[0]]
                told = machine_of(letters, (row,))
                self.assertIs(look_machine(told), True)
                self.assertEqual(told, least_plainly(told))
                self.assertEqual(texts_of(told, 3), texts)
                self.assertEqual(len(told[1]), {"nothing": 1, "blank": 2, "letter": 3}[row[0]])

    def test_just_what_tells_tells(self):
        for expression in (ALL, BEGINS_A, HAS_AB, NO_B):
            told = machine_of("ab", expression)
            for text in texts_to("ab", 7):
                self.assertEqual(read_plainly(told, text), tells("ab", expression, text))

    def test_any_expressions(self):
        for letters, expression in made_expressions(90, 150, 10):
            told = machine_of(letters, expression, 9999)
            self.assertEqual(told, machines_by_row(letters, expression)[0][-1], expression)
            self.assertEqual({type(answer) for answer in told[2]}, {bool})
            for text in texts_to(letters, 4):
                self.assertEqual(read_plainly(told, text), tells(letters, expression, text), expression)
            self.assertEqual(machine_of(letters, tidied(expression), 9999), told)

    def test_too_many_at_the_first_row_at_which_so_many_come_up(self):
        refusals = 0
        for letters, expression in made_expressions(91, 150, 12):
            counts = machines_by_row(letters, expression)[1]
            greatest = max(counts)
            if greatest > 0:
                machine_of(letters, expression, greatest)
            for most in sorted({1, 2, 3, 4, 5, greatest - 1}):
                over = [at for at, count in enumerate(counts) if count > most]
                if over and most > 0:
                    refusals += 1
                    self.assertEqual(refused(self, TooMany, machine_of, letters, expression, most).at, over[0])
        self.assertGreater(refusals, 200)

    def test_leaves_and_nots_are_never_refused(self):
        for row in (NOTHING, BLANK, A, B):
            for expression in ((row,), (row, ("not", 0)), (row, ("not", 0), ("not", 1))):
                self.assertEqual(machine_of("ab", expression, 1), machine_of("ab", expression))

    def test_rows_that_are_not_needed_are_made_too(self):
        behind = (A, B, ("behind", 0, 1), A)
        counts = machines_by_row("ab", behind)[1]
        self.assertEqual(refused(self, TooMany, machine_of, "ab", behind, counts[2] - 1).at, 2)
        self.assertEqual(machine_of("ab", behind, counts[2]), machine_of("ab", (A,)))
        self.assertEqual(refused(self, TooMany, machine_of, "ab", doubled(A, "behind", 30) + (A,)).at, 9)
        self.assertEqual(refused(self, TooMany, machine_of, "ab", (B, B) + ((A, B, ("or", 2, 3)) + (B,)), 1).at, 4)

    def test_most_left_out_is_400(self):
        line = (A,) + tuple(("behind", at, 0) for at in range(398))
        self.assertEqual(inspect.signature(machine_of).parameters["most"].default, 400)
        self.assertEqual(list(inspect.signature(machine_of).parameters), ["letters", "expression", "most"])
        for at in range(1, 6):
            self.assertEqual(machines_by_row("a", line[:at + 1])[1][at], at + 3)
        self.assertEqual(machine_of("a", line[:398]), chain(400, (398,)))
        self.assertEqual(refused(self, TooMany, machine_of, "a", line).at, 398)
        self.assertEqual(machine_of("a", line, most=401), chain(401, (399,)))

    def test_the_parts_are_least_ahead_of_their_use(self):
        # Each row is all texts, told in more and more ways: one room each, though the parts' parts had more.
        rows = [NOTHING, ("not", 0), A, ("not", 2), ("or", 2, 3)]
        rows += [("behind", 4, 4), ("and", 5, 4), ("or", 6, 5)]
        counts = machines_by_row("ab", tuple(rows))[1]
        self.assertEqual(counts[5:], [1, 1, 1])
        self.assertEqual(machine_of("ab", tuple(rows), 3), EVERY)
        self.assertEqual(refused(self, TooMany, machine_of, "ab", tuple(rows), 2).at, 4)

    def test_sixty_rows_without_measure(self):
        self.assertEqual(machine_of("ab", doubled(A, "or", 60)), machine_of("ab", (A,)))
        self.assertEqual(machine_of("ab", doubled(BLANK, "behind", 60)), machine_of("ab", (BLANK,)))
        self.assertEqual(refused(self, TooMany, machine_of, "ab", doubled(A, "behind", 60)).at, 9)
        self.assertEqual(len(machine_of("ab", doubled(A, "behind", 9))[1]), 258)
        every = (NOTHING, ("not", 0)) + tuple(("behind", at, at) for at in range(1, 59))
        self.assertEqual(machine_of("ab", every), EVERY)

    def test_thousands_deep(self):
        deep = (A,) + tuple(("not", at) for at in range(2001))
        self.assertEqual(texts_of(machine_of("a", deep), 3), ["", "aa", "aaa"])

    def test_what_is_told_is_new_and_stays(self):
        for expression in (HAS_AB, doubled(A, "or", 60), (NOTHING,)):
            told = holds_to_point_2(self, machine_of, "ab", expression)
            refused(self, TooMany, machine_of, "ab", doubled(A, "behind", 60))
            self.assertEqual(machine_of("ab", expression), told)


if __name__ == "__main__":
    unittest.main()
