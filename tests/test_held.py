"""Point 33: things held against one another, and countings that outrun them."""

import itertools
import random
import unittest

from calmword.countings import counting
from calmword.errors import NotClosed, OtherLetters, TooMany
from calmword.grounds import told
from calmword.held import outrun, parted
from calmword.made import machine_of
from calmword.pairs import pairs_hold
from calmword.saymade import saying_machine
from calmword.sayings_of import saying_of
from calmsamples import drawn_machines
from samples import ENDS_AB, EVEN_A, EVERY, NONE, VERY_MANY, blown_up, first_apart, holds_to_point_2
from samples import least_plainly, made_machines, read_plainly, refused, ring
from saysamples import A_AHEAD_OF_B, EACH_A, FIRST_A, OVER_400, SOME_PLACE, X_A, X_Y, YES, at_least, behind_rows
from saysamples import closed_sayings
from tellings import A, ALL, B, BEGINS_A, BLANK, HAS_AB, NINE_BEHIND, NOTHING, made_expressions

def made_plainly(letters, thing):
    """The least machine of a thing."""
    if thing[0] == "machine":
        return least_plainly(thing[1])
    return machine_of(letters, thing[1], 9999) if thing[0] == "expression" else saying_machine(letters, thing[1], 9999)


def things_of(seed, letters):
    """Some of each sort."""
    things = [("machine", machine) for machine in made_machines(seed, 6, 3, (letters,))]
    things += [("expression", expression) for _, expression in made_expressions(seed, 6, 7, (letters,))]
    return things + [("saying", saying) for saying in closed_sayings(seed, 6, letters)]


class Parted(unittest.TestCase):
    def holds_to_the_point(self, letters, one, other):
        left, right = made_plainly(letters, one), made_plainly(letters, other)
        answer = parted(letters, one, other)
        text = first_apart(left, right)
        if text is not None:
            self.assertEqual(answer, ("part", text))
        else:
            self.assertEqual(answer, ("alike", [(room, room) for room in range(len(left[1]))]))
            self.assertIs(pairs_hold(left, right, answer[1]), True)
        return answer[0]

    def test_any_two_sorts(self):
        seen = {}
        for letters in ("a", "ba", "cab"):
            for one, other in itertools.product(things_of(230, letters), repeat=2):
                found = self.holds_to_the_point(letters, one, other)
                seen.setdefault((one[0], other[0]), set()).add(found)
        sorts = ("machine", "expression", "saying")
        self.assertEqual(seen, {pair: {"alike", "part"} for pair in itertools.product(sorts, repeat=2)})

    def test_known_things(self):
        self.assertEqual(parted("ab", ("machine", ENDS_AB), ("expression", (NOTHING, ("not", 0), A, B, ("behind", 2, 3),
                                                                              ("behind", 1, 4)))),
                         ("alike", [(0, 0), (1, 1), (2, 2)]))
        self.assertEqual(parted("ab", ("machine", NONE), ("machine", EVERY)), ("part", ""))
        self.assertEqual(parted("ab", ("saying", A_AHEAD_OF_B), ("machine", NONE)), ("part", "ab"))
        self.assertEqual(parted("ba", ("saying", SOME_PLACE), ("expression", BEGINS_A)), ("part", "b"))
        self.assertEqual(parted("ab", ("saying", SOME_PLACE), ("expression", BEGINS_A)), ("part", "b"))
        self.assertEqual(parted("ab", ("saying", EACH_A), ("saying", FIRST_A)), ("part", ""))

    def test_pairs_of_the_least_machines(self):
        for seed, machine in enumerate(made_machines(231, 20, 4)):
            one, other = ("machine", blown_up(machine, seed, 30)), ("machine", blown_up(machine, seed + 50, 30))
            self.assertEqual(self.holds_to_the_point(machine[0], one, other), "alike")

    def test_each_made_of_the_other(self):
        for letters, expression in made_expressions(232, 40, 8, ("a", "ba", "cab")):
            self.assertEqual(self.holds_to_the_point(letters, ("expression", expression),
                                                     ("saying", saying_of(letters, expression))), "alike")

    def test_other_letters(self):
        things = [("machine", EVEN_A), ("expression", (A,)), ("saying", (YES,))]
        for letters in ("ba", "a", "abc", "cd", "b"):
            same = ("machine", (letters, ((0,) * len(letters),), (True,)))
            refused(self, OtherLetters, parted, letters, ("machine", EVEN_A), same)
            refused(self, OtherLetters, parted, letters, same, ("machine", EVEN_A))
            refused(self, OtherLetters, parted, letters, ("saying", (YES,)), ("machine", EVEN_A))
            refused(self, OtherLetters, parted, letters, ("expression", (BLANK,)), ("machine", EVEN_A))
            refused(self, OtherLetters, parted, letters, ("machine", EVEN_A), ("machine", EVEN_A))
        for one, other in itertools.product(things, repeat=2):
            parted("ab", one, other)

    def test_making_is_with_most_400(self):
        self.assertEqual(refused(self, TooMany, parted, "ab", ("expression", NINE_BEHIND), ("machine", EVERY)).at, 12)
        over = ("saying", OVER_400)
        self.assertEqual(refused(self, TooMany, parted, "ab", ("machine", EVERY), over).at, len(OVER_400) - 1)
        just = behind_rows(at_least("a", 19), at_least("b", 19))
        just += (("and", len(at_least("a", 19)) - 1, len(just) - 1),)
        answer = parted("ab", ("saying", just), ("saying", just))
        self.assertEqual(answer, ("alike", [(room, room) for room in range(400)]))
        self.assertEqual(parted("ab", ("expression", NINE_BEHIND[:12]), ("machine", NONE)), ("part", "a" * 7))

    def test_what_the_first_is_refused_with_goes_ahead(self):
        many, other, free = ("expression", NINE_BEHIND), ("machine", ring(2, (0,), "ba")), ("saying", OVER_400 + (X_Y,))
        said = ("saying", OVER_400)
        for one, error in ((many, TooMany), (other, OtherLetters), (free, NotClosed), (said, TooMany)):
            for second in (many, other, free, said):
                refused(self, error, parted, "ab", one, second)
            refused(self, error, parted, "ab", ("machine", EVERY), one)
            refused(self, error, parted, "ab", ("saying", (YES,)), one)
        self.assertEqual(refused(self, TooMany, parted, "ab", many, said).at, 12)
        self.assertEqual(refused(self, TooMany, parted, "ab", said, many).at, len(OVER_400) - 1)
        self.assertEqual(refused(self, NotClosed, parted, "ab", ("saying", (X_A,)), many).names, ("x",))

    def test_what_is_told_is_new_and_stays(self):
        for one, other in ((("machine", ENDS_AB), ("machine", ENDS_AB)), (("expression", HAS_AB), ("saying", EACH_A)),
                           (("saying", (YES,)), ("expression", ALL))):
            answer = holds_to_point_2(self, parted, "ab", one, other)
            refused(self, TooMany, parted, "ab", one, ("saying", OVER_400))
            self.assertEqual(parted("ab", one, other), answer)


class Outrun(unittest.TestCase):
    def holds_to_the_point(self, machine, told_counting, thing):
        start, text, end, first, _ = told_counting
        made = made_plainly(machine[0], thing)
        n = outrun(machine, told_counting, thing)
        self.assertIs(type(n), int)
        self.assertGreaterEqual(n, first)
        for before in range(first, n + 1):
            whole = start + text * before + end
            self.assertIs(read_plainly(machine, whole) != read_plainly(made, whole), before == n, (machine, thing, n))
        return n

    def test_known(self):
        told_counting = ("", "a", "", 0, (True, False))
        for expression, n in (((NOTHING,), 0), (ALL, 1), ((BLANK,), 2),
                              ((A, ("behind", 0, 0), BLANK, ("or", 1, 2)), 4)):
            self.assertEqual(outrun(EVEN_A, told_counting, ("expression", expression)), n)
        self.assertEqual(outrun(EVEN_A, told_counting, ("saying", (YES,))), 1)
        self.assertEqual(outrun(EVEN_A, told_counting, ("saying", SOME_PLACE + (("not", 1),))), 2)

    def test_from_the_first_on(self):
        for first in (0, 1, 2, 3, 50, 199, 200):
            rest = (True, False) if first % 2 == 0 else (False, True)
            for thing, odd in ((("expression", (NOTHING,)), 0), (("expression", ALL), 1), (("saying", EACH_A), 1)):
                n = self.holds_to_the_point(EVEN_A, ("", "a", "", first, rest), thing)
                self.assertEqual(n, first + (first + odd) % 2)

    def test_drawn(self):
        chance = random.Random(233)
        machines = drawn_machines(234, 20, 3, "ab", False) + drawn_machines(235, 20, 4, "ab", False) + [
            ring(rooms, (0,), "ab") for rooms in (2, 5, 30, 60)]
        expressions = [expression for _, expression in made_expressions(236, 60, 12, ("ab",))]
        sayings = closed_sayings(237, 60, "ab")
        for machine in machines:
            told_counting = counting(machine) if len(machine[1]) > 4 else told(machine)[1]
            for _ in range(6):
                self.holds_to_the_point(machine, told_counting, ("expression", chance.choice(expressions)))
                self.holds_to_the_point(machine, told_counting, ("saying", chance.choice(sayings)))

    def test_things_that_come_near(self):
        # Even numbers of a up to some bound: each bound is left behind.
        for many in (1, 3, 6):
            rows, last = [A, BLANK, ("behind", 0, 0), ("or", 1, 2)], 3
            for _ in range(many):
                rows.append(("behind", last, 2))
                rows.append(("or", last, len(rows) - 1))
                last = len(rows) - 1
            n = self.holds_to_the_point(ring(2), ("", "a", "", 0, (True, False)), ("expression", tuple(rows)))
            self.assertEqual(n, 2 * many + 4)
            saying = saying_of("a", tuple(rows))
            self.assertEqual(outrun(ring(2), ("", "a", "", 0, (True, False)), ("saying", saying)), n)

    def test_more_than_2000_deeds(self):
        self.holds_to_the_point(VERY_MANY, ("", "a", "", 0, (True,) + (False,) * 8), ("expression", HAS_AB))

    def test_refused_as_it_is_made(self):
        told_counting = ("", "a", "", 0, (True, False))
        self.assertEqual(refused(self, TooMany, outrun, EVEN_A, told_counting, ("expression", NINE_BEHIND)).at, 12)
        over, free = ("saying", OVER_400), ("saying", OVER_400 + (X_A,))
        self.assertEqual(refused(self, TooMany, outrun, EVEN_A, told_counting, over).at, len(OVER_400) - 1)
        self.assertEqual(refused(self, NotClosed, outrun, EVEN_A, told_counting, free).names, ("x",))

    def test_what_is_told_stays(self):
        told_counting = ("", "a", "", 0, (True, False))
        holds_to_point_2(self, outrun, EVEN_A, told_counting, ("expression", HAS_AB))
        holds_to_point_2(self, outrun, EVEN_A, told_counting, ("saying", EACH_A))


if __name__ == "__main__":
    unittest.main()
