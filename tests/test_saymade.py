"""Points 21, 22 and 23: machines of sayings."""

import inspect
import itertools
import unittest

from calmword.errors import NotClosed, TooMany
from calmword.holding import holds
from calmword.machines import look_machine
from calmword.marks import marked_letters, marked_text
from calmword.saymade import marked_machine, saying_machine
from samples import EVERY, NONE, holds_to_point_2, least_plainly, refused, read_plainly, rooms_come_up, texts_to
from saysamples import A_AHEAD_OF_B, EACH_A, FIRST_A, SOME_PLACE, X_A, X_B, X_Y, Y_A, Y_B, Y_X, Y_Z, YES, Z_A, Z_X
from saysamples import all_places, at_least, behind_rows, doubled_saying, far_ahead, holds_plainly, made_sayings
from saysamples import names_by_row, run_signs, said_by_row

# A saying for each kind of row, with none to three free names.
KINDS = (
    (YES,), (YES, ("not", 0)), (YES, ("and", 0, 0)), SOME_PLACE, (YES, ("each", "x", 0)), EACH_A,
    (X_A,), (X_B,), (X_Y,), (Y_X,), (("ahead", "x", "x"),), (("ahead", "b", "ab"),),
    (X_A, ("not", 0)), (X_Y, ("not", 0)), (("ahead", "x", "x"), ("not", 0)),
    (X_A, X_B, ("and", 0, 1)), (X_A, X_B, ("or", 0, 1)), (X_A, Y_A, ("and", 0, 1)), (X_A, Y_B, ("or", 1, 0)),
    (X_Y, Y_X, ("or", 0, 1)), (X_Y, Y_Z, ("and", 0, 1)), (X_Y, Z_A, ("or", 1, 0)), (X_Y, Y_Z, ("or", 0, 1), ("not", 2)),
    (YES, X_A, ("and", 0, 1)), (YES, ("not", 0), X_A, ("or", 1, 2)),
    (X_A, ("some", "x", 0)), (X_Y, ("some", "x", 0)), (X_Y, ("some", "y", 0)), (X_A, ("some", "y", 0)),
    (X_Y, Y_Z, ("and", 0, 1), ("some", "y", 2)), (X_Y, Y_Z, ("and", 0, 1), ("some", "u", 2)),
    (X_Y, ("each", "x", 0)), (X_A, ("each", "y", 0)), (X_Y, Z_X, ("or", 0, 1), ("each", "x", 2)),
    (X_Y, Z_X, ("or", 0, 1), ("each", "u", 2)), (X_A, ("some", "x", 0), ("some", "x", 1)),
    (X_A, ("some", "x", 0), ("each", "x", 1)), A_AHEAD_OF_B, FIRST_A)


def each_marked_once(names, signs):
    """By name the one place at which it is marked, or None."""
    places = {}
    for spot, name in enumerate(names):
        marked = [place for place, (_, truths) in enumerate(signs) if truths[spot]]
        if len(marked) != 1:
            return None
        places[name] = marked[0]
    return places


class MarkedMachine(unittest.TestCase):
    def holds_to_the_point(self, letters, saying, most_signs):
        """All texts of marked letters, with at most so many signs, are let by as point 21 tells."""
        told = marked_machine(letters, saying, 99999)
        names = names_by_row(saying)[-1]
        self.assertEqual(told[0], names)
        numbered = marked_letters(letters, names)
        for signs in range(most_signs + 1):
            for numbers in itertools.product(range(len(numbered)), repeat=signs):
                places = each_marked_once(names, [numbered[number] for number in numbers])
                text = "".join(numbered[number][0] for number in numbers)
                due = places is not None and holds_plainly(saying, text, places)
                self.assertIs(run_signs(told, numbers), due, (letters, saying, numbers))

    def test_each_kind_of_row(self):
        for saying in KINDS:
            for letters in ("ab", "ba", "cab"):
                names = names_by_row(saying)[-1]
                self.holds_to_the_point(letters, saying, 4 if len(names) < 2 else 3 if len(letters) < 3 else 2)

    def test_known_machines(self):
        for saying, machine in (
                ((YES,), ((), ((0, 0),), (True,))), ((YES, ("not", 0)), ((), ((0, 0),), (False,))),
                ((X_A,), (("x",), ((0, 1, 0, 2), (1, 2, 1, 2), (2, 2, 2, 2)), (False, True, False))),
                ((X_B,), (("x",), ((0, 1, 0, 2), (1, 1, 1, 1), (2, 1, 2, 1)), (False, False, True))),
                ((("ahead", "x", "x"),), (("x",), ((0, 0, 0, 0),), (False,))),
                (SOME_PLACE, ((), ((1, 1), (1, 1)), (False, True))),
                (EACH_A, ((), ((0, 1), (1, 1)), (True, False)))):
            self.assertEqual(marked_machine("ab", saying), machine, saying)
        self.assertEqual(marked_machine("a", (X_Y,)), (
            ("x", "y"), ((0, 1, 2, 1), (1, 1, 1, 1), (2, 3, 1, 1), (3, 1, 1, 1)), (False, False, False, True)))

    def test_a_name_marked_twice_or_nowhere(self):
        for saying in ((X_A,), (X_A, ("not", 0)), (X_A, X_B, ("or", 0, 1)), (X_A, ("some", "y", 0)),
                       (X_A, ("each", "y", 0)), (X_A, YES, ("or", 0, 1))):
            told = marked_machine("ab", saying)
            for numbers in ([], [0], [2, 0, 2], [1, 1], [1, 3], [3, 0, 3], [1, 0, 1, 2, 1], [0, 2, 3, 3]):
                self.assertIs(run_signs(told, numbers), False, (saying, numbers))

    def test_marks_of_texts(self):
        for letters, saying in made_sayings(130, 60, 9, ("a", "ba")):
            told = marked_machine(letters, saying, 99999)
            for text in texts_to(letters, 4):
                for places in all_places(told[0], text):
                    numbers = marked_text(letters, told[0], text, places)
                    self.assertIs(run_signs(told, numbers), holds(saying, text, places), (saying, text, places))

    def test_any_sayings(self):
        for letters, saying in made_sayings(131, 60, 9):
            told = marked_machine(letters, saying, 99999)
            self.assertEqual(told, said_by_row(letters, saying)[0][-1], (letters, saying))
            self.holds_to_the_point(letters, saying, 3 if len(told[1][0]) < 9 else 1)

    def test_the_fewest_rooms_numbered_as_they_come_up(self):
        for letters, saying in [("ab", saying) for saying in KINDS] + made_sayings(132, 60, 9):
            names, moves, yes = marked_machine(letters, saying, 99999)
            signs = "".join(chr(65 + number) for number in range(len(moves[0])))
            self.assertEqual(least_plainly((signs, moves, yes)), (signs, moves, yes))
            self.assertEqual(rooms_come_up((signs, moves, yes)), list(range(len(moves))))

    def test_the_kinds_of_what_is_told(self):
        for saying in KINDS:
            told = marked_machine("ab", saying)
            self.assertEqual([type(part) for part in (told,) + told], [tuple] * 4)
            self.assertEqual({type(row) for row in told[1]}, {tuple})
            self.assertEqual({type(answer) for answer in told[2]}, {bool})
            self.assertEqual({len(row) for row in told[1]}, {2 * 2 ** len(told[0])})

    def test_too_many_at_the_first_row_at_which_so_many_come_up(self):
        refusals = 0
        for letters, saying in [("ab", saying) for saying in KINDS] + made_sayings(133, 80, 10, ("a", "ba")):
            counts = said_by_row(letters, saying)[1]
            greatest = max(counts)
            if greatest > 0:
                self.assertEqual(marked_machine(letters, saying, greatest), marked_machine(letters, saying, 99999))
            for most in sorted({1, 2, 3, 4, 6, 9, greatest - 1}):
                over = [at for at, count in enumerate(counts) if count > most]
                if over and most > 0:
                    refusals += 1
                    self.assertEqual(refused(self, TooMany, marked_machine, letters, saying, most).at, over[0],
                                     (letters, saying, most))
        self.assertGreater(refusals, 300)

    def test_the_rooms_that_come_up(self):
        for saying, count in (
                # Of a yes: ((), 0).
                ((YES, ("not", 0)), 1), ((YES, ("and", 0, 0)), 1), ((YES, ("or", 0, 0)), 1),
                # ((), 0), (("x",), 1), (("x",), 2) by the other letter, (None, 2): is has three rooms.
                ((X_A, ("not", 0)), 4),
                # A place isn't ahead of itself: one room, with seen (), ("x",), None.
                ((("ahead", "x", "x"), ("not", 0)), 3),
                # (0, False), (0, True).
                (SOME_PLACE, 2),
                # (0,), (0, 1), (0, 2) by the other letter, (0, 1, 2).
                ((X_A, ("some", "x", 0)), 4)):
            self.assertEqual(said_by_row("ab", saying)[1][-1], count, saying)
            marked_machine("ab", saying, count)
            if count > 1:
                self.assertEqual(refused(self, TooMany, marked_machine, "ab", saying, count - 1).at, len(saying) - 1)

    def test_each_is_refused_at_any_of_the_three(self):
        seen = set()
        far = [("abc", far_ahead(6), "x")]
        for letters, saying, name in [(*made, name) for made in made_sayings(134, 300, 8, ("a", "ba"))
                                      for name in ("x", "y", "ab")] + far:
            last = len(saying) - 1
            counts = said_by_row(letters, saying + (("not", last), ("some", name, last + 1), ("not", last + 2)))[1]
            three = counts[-3:]
            greatest = max(three)
            # Only where one of the three alone has the most rooms, and more than one.
            if counts.count(greatest) > 1 or max(counts) > greatest or greatest < 2:
                continue
            seen.add(three.index(greatest))
            each = saying + (("each", name, last),)
            self.assertEqual(refused(self, TooMany, marked_machine, letters, each, greatest - 1).at, last + 1)
            self.assertEqual(marked_machine(letters, each, greatest), marked_machine(letters, each, 99999))
        self.assertEqual(seen, {0, 1, 2})

    def test_yes_is_and_ahead_are_never_refused(self):
        for saying in ((YES,), (X_A,), (X_B,), (X_Y,), (Y_X,), (("ahead", "x", "x"),), (X_A, X_Y, YES, Z_A, Y_Z)):
            self.assertEqual(marked_machine("dbca", saying, 1), marked_machine("dbca", saying))

    def test_rows_that_are_not_needed_are_made_too(self):
        unneeded = (X_A, Y_B, X_Y, ("and", 0, 1), ("and", 3, 2), YES)
        counts = said_by_row("ab", unneeded)[1]
        self.assertGreater(counts[4], 5)
        self.assertGreater(counts[3], 5)
        self.assertEqual(refused(self, TooMany, marked_machine, "ab", unneeded, 5).at, 3)
        self.assertEqual(refused(self, TooMany, saying_machine, "ab", unneeded, counts[3] - 1).at, 3)
        self.assertEqual(saying_machine("ab", unneeded, max(counts)), EVERY)
        self.assertEqual(refused(self, TooMany, marked_machine, "ab", (X_A, ("not", 0), YES), 3).at, 1)

    def test_most_left_out_is_400(self):
        for function in (marked_machine, saying_machine):
            self.assertEqual(inspect.signature(function).parameters["most"].default, 400)
            self.assertEqual(list(inspect.signature(function).parameters), ["letters", "saying", "most"])
            # As many a and as many b: of both there come up 20 times 20 rooms, or 20 times 21.
            just = behind_rows(at_least("a", 19), at_least("b", 19))
            last = len(at_least("a", 19)) - 1
            told = function("ab", just + (("and", last, len(just) - 1),))
            self.assertEqual(len(told[1]), 400)
            over = behind_rows(at_least("a", 19), at_least("b", 20))
            over += (("and", last, len(over) - 1),)
            self.assertEqual(refused(self, TooMany, function, "ab", over).at, len(over) - 1)
            self.assertEqual(len(function("ab", over, most=420)[1]), 420)

    def test_sixty_rows_without_measure(self):
        for word in ("and", "or"):
            rows = doubled_saying(X_A, word, 59)
            self.assertEqual(marked_machine("ab", rows), marked_machine("ab", (X_A,)))
            self.assertEqual(marked_machine("ab", rows + (("each", "x", 58),)), marked_machine("ab", EACH_A))
        self.assertEqual(marked_machine("ab", (X_Y,) + tuple(("not", at) for at in range(58))),
                         marked_machine("ab", (X_Y,)))

    def test_hundreds_deep(self):
        deep = (X_A,) + tuple(("not", at) for at in range(901))
        self.assertEqual(marked_machine("ab", deep), marked_machine("ab", (X_A, ("not", 0))))
        self.assertEqual(marked_machine("ab", (X_A,) + tuple(("some", "x", at) for at in range(900))),
                         marked_machine("ab", (X_A, ("some", "x", 0))))

    def test_what_is_told_is_new_and_stays(self):
        for saying in KINDS[::3]:
            told = holds_to_point_2(self, marked_machine, "ab", saying)
            refused(self, TooMany, marked_machine, "ab", A_AHEAD_OF_B, 2)
            marked_machine("ba", FIRST_A)
            self.assertEqual(marked_machine("ab", saying), told)


class SayingMachine(unittest.TestCase):
    def test_known_sayings(self):
        self.assertEqual(saying_machine("ab", (YES,)), EVERY)
        self.assertEqual(saying_machine("ab", (YES, ("not", 0))), NONE)
        self.assertEqual(saying_machine("ab", SOME_PLACE), ("ab", ((1, 1), (1, 1)), (False, True)))
        self.assertEqual(saying_machine("ab", EACH_A), ("ab", ((0, 1), (1, 1)), (True, False)))
        self.assertEqual(saying_machine("ba", EACH_A), ("ba", ((1, 0), (1, 1)), (True, False)))
        self.assertEqual(saying_machine("ab", FIRST_A), ("ab", ((1, 2), (1, 1), (2, 2)), (False, True, False)))
        self.assertEqual(saying_machine("ab", A_AHEAD_OF_B), ("ab", ((1, 0), (1, 2), (2, 2)), (False, False, True)))

    def test_just_the_texts_of_which_it_holds(self):
        closed = 0
        for letters, saying in made_sayings(135, 250, 12):
            if names_by_row(saying)[-1]:
                continue
            closed += 1
            told = saying_machine(letters, saying, 99999)
            self.assertIs(look_machine(told), True)
            self.assertEqual((told[0], told), (letters, least_plainly(told)))
            self.assertEqual(marked_machine(letters, saying, 99999), ((),) + told[1:])
            for text in texts_to(letters, 5 if len(letters) < 3 else 3):
                self.assertIs(read_plainly(told, text), holds(saying, text, {}), (saying, text))
        self.assertGreater(closed, 30)

    def test_the_text_without_signs_and_a_name_that_is_not_free(self):
        for saying, texts in (
                ((YES, ("some", "x", 0)), ["a", "aa"]), ((YES, ("each", "x", 0)), ["", "a", "aa"]),
                ((YES, ("not", 0), ("each", "x", 1)), [""]), ((YES, ("not", 0), ("some", "x", 1)), []),
                (SOME_PLACE + (("not", 1), ("some", "y", 2)), []), (SOME_PLACE + (("not", 1), ("each", "y", 2)), [""])):
            told = saying_machine("a", saying)
            self.assertEqual([text for text in texts_to("a", 2) if read_plainly(told, text)], texts, saying)

    def test_not_closed(self):
        for saying, names in (
                ((X_A,), ("x",)), ((Y_X,), ("x", "y")), ((X_Y, Y_Z, ("or", 1, 0)), ("x", "y", "z")),
                ((("ahead", "b", "ab"),), ("ab", "b")), ((X_Y, ("some", "x", 0)), ("y",)), (EACH_A + (Y_A,), ("y",)),
                (EACH_A + (Z_X, ("and", 1, 2)), ("x", "z"))):
            error = refused(self, NotClosed, saying_machine, "ab", saying)
            self.assertEqual(error.names, names)
            self.assertIs(type(error.names), tuple)

    def test_not_closed_goes_ahead_of_too_many(self):
        saying = A_AHEAD_OF_B + (X_A, ("not", 7))
        refused(self, TooMany, marked_machine, "ab", saying, 1)
        self.assertEqual(refused(self, NotClosed, saying_machine, "ab", saying, 1).names, ("x",))
        self.assertEqual(refused(self, TooMany, saying_machine, "ab", saying + (YES,), 1).at, 3)

    def test_many_rows(self):
        for many in (1, 2, 7, 18):
            told = saying_machine("ba", at_least("a", many))
            self.assertEqual(told, ("ba", tuple((room, min(room + 1, many)) for room in range(many + 1)),
                                    tuple(room == many for room in range(many + 1))))

    def test_what_is_told_is_new_and_stays(self):
        for saying in (A_AHEAD_OF_B, FIRST_A, (YES,), at_least("b", 9)):
            told = holds_to_point_2(self, saying_machine, "ab", saying)
            refused(self, NotClosed, saying_machine, "ab", saying + (X_Y,))
            refused(self, TooMany, saying_machine, "ab", A_AHEAD_OF_B, 2)
            self.assertEqual(saying_machine("ab", saying), told)


if __name__ == "__main__":
    unittest.main()
