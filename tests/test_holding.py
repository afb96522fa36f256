"""Point 19: what sayings hold of."""

import copy
import random
import unittest

from calmword.holding import holds
from samples import holds_to_point_2, texts_to
from saysamples import A_AHEAD_OF_B, EACH_A, FIRST_A, SOME_PLACE, X_A, X_B, X_Y, Y_A, Y_X, YES, all_places, at_least
from saysamples import doubled_saying, holds_plainly, made_saying, made_sayings, names_by_row


class Holds(unittest.TestCase):
    def test_each_kind_of_row(self):
        for saying, text, places, truth in (
                ((YES,), "", {}, True), ((YES,), "ab", {}, True), ((YES, ("not", 0)), "", {}, False),
                ((X_A,), "ab", {"x": 0}, True), ((X_A,), "ab", {"x": 1}, False), ((X_B,), "ab", {"x": 1}, True),
                ((X_Y,), "ab", {"x": 0, "y": 1}, True), ((X_Y,), "ab", {"x": 1, "y": 0}, False),
                ((X_Y,), "ab", {"x": 1, "y": 1}, False), ((Y_X,), "ab", {"x": 1, "y": 0}, True),
                ((("ahead", "x", "x"),), "ab", {"x": 1}, False), ((X_A, ("not", 0)), "ab", {"x": 0}, False),
                ((X_A, ("not", 0)), "ab", {"x": 1}, True),
                ((X_A, Y_A, ("and", 0, 1)), "ab", {"x": 0, "y": 1}, False),
                ((X_A, Y_A, ("and", 0, 1)), "aab", {"x": 0, "y": 1}, True),
                ((X_A, Y_A, ("or", 0, 1)), "ab", {"x": 0, "y": 1}, True),
                ((X_A, Y_A, ("or", 1, 0)), "ab", {"x": 1, "y": 1}, False),
                ((X_A, ("some", "x", 0)), "bba", {}, True), ((X_A, ("some", "x", 0)), "bbb", {}, False),
                (EACH_A, "aa", {}, True), (EACH_A, "aab", {}, False),
                ((X_Y, ("some", "x", 0)), "ab", {"y": 0}, False), ((X_Y, ("some", "x", 0)), "ab", {"y": 1}, True),
                ((X_Y, ("some", "y", 0)), "ab", {"x": 0}, True), ((X_Y, ("some", "y", 0)), "ab", {"x": 1}, False),
                ((X_Y, ("not", 0), ("each", "y", 1)), "ab", {"x": 1}, True),
                ((X_Y, ("not", 0), ("each", "y", 1)), "ab", {"x": 0}, False)):
            self.assertIs(holds(saying, text, places), truth, (saying, text, places))

    def test_the_text_without_signs(self):
        for saying, truth in (
                (SOME_PLACE, False), ((YES, ("each", "x", 0)), True), ((YES, ("not", 0), ("each", "x", 1)), True),
                ((YES, ("not", 0), ("some", "x", 1)), False), (EACH_A, True), ((X_A, ("some", "x", 0)), False),
                (A_AHEAD_OF_B, False), ((X_Y, ("each", "y", 0), ("each", "x", 1)), True),
                ((X_Y, ("each", "y", 0), ("some", "x", 1)), False), (EACH_A + (("some", "y", 1),), False),
                (EACH_A + (("not", 1),), False), ((X_A, ("some", "x", 0), ("each", "y", 1)), True)):
            self.assertIs(holds(saying, "", {}), truth, saying)

    def test_known_texts(self):
        for text in texts_to("ab", 6):
            self.assertIs(holds(SOME_PLACE, text, {}), text != "")
            self.assertIs(holds(EACH_A, text, {}), "b" not in text)
            self.assertIs(holds(FIRST_A, text, {}), text.startswith("a"))
            self.assertIs(holds(A_AHEAD_OF_B, text, {}), "a" in text and "b" in text[text.index("a"):])
            self.assertIs(holds(at_least("b", 3), text, {}), text.count("b") >= 3)

    def test_any_sayings(self):
        closed = 0
        for letters, saying in made_sayings(120, 250, 14):
            names = names_by_row(saying)[-1]
            closed += not names
            for text in texts_to(letters, 2 if len(letters) > 2 else 3):
                for places in all_places(names, text):
                    self.assertIs(holds(saying, text, places), holds_plainly(saying, text, places),
                                  (saying, text, places))
        self.assertGreater(closed, 30)

    def test_names_in_any_order(self):
        for one, other, third in (
                ("x", "y", "z"), ("z", "y", "x"), ("b", "ab", "a"), ("ab", "a", "b"), ("y", "z", "x")):
            saying = (("ahead", one, other), ("ahead", other, third), ("and", 0, 1))
            for places in all_places((one, other, third), "abab"):
                self.assertIs(holds(saying, "abab", places), places[one] < places[other] < places[third])
            for name in (one, other, third):
                bound = saying + (("some", name, 2),)
                for places in all_places(names_by_row(bound)[-1], "abab"):
                    self.assertIs(holds(bound, "abab", places), holds_plainly(bound, "abab", places))

    def test_a_name_bound_anew(self):
        # Some x has a, some x (another one) has b, and the first still has a.
        saying = (X_A, X_B, ("some", "x", 1), ("and", 0, 2), ("and", 3, 0), ("some", "x", 4))
        for text in texts_to("ab", 4):
            self.assertIs(holds(saying, text, {}), "a" in text and "b" in text)
        # x is behind some place, of which some x is ahead.
        twice = (X_Y, ("some", "x", 0), Y_X, ("and", 1, 2), ("some", "y", 3))
        for place in range(4):
            self.assertIs(holds(twice, "aaaa", {"x": place}), place >= 2)
        self.assertIs(holds((X_A, ("some", "x", 0), ("each", "x", 1)), "ba", {}), True)
        self.assertIs(holds((X_A, ("each", "x", 0), ("some", "x", 1)), "ba", {}), False)
        self.assertIs(holds((X_A, ("some", "x", 0)), "ba", {"x": 0}), True)
        self.assertIs(holds((X_A, ("some", "x", 0), ("and", 0, 1)), "ba", {"x": 0}), False)

    def test_places_with_more_names(self):
        for places in ({"x": 1, "y": 0, "z": 2}, {"zz": 0, "x": 1}, {"a": 2, "x": 1, "ab": 0, "b": 1}):
            self.assertIs(holds((X_B,), "abc", places), True)
            self.assertIs(holds((X_A, ("not", 0), ("some", "y", 1)), "abc", places), True)
            self.assertIs(holds(EACH_A, "abc", places), False)
            self.assertIs(holds((YES,), "abc", places), True)

    def test_ten_signs_and_a_depth_of_four(self):
        chance = random.Random(121)
        # Some a, some b behind it, each c behind that stands ahead of some a.
        saying = (("ahead", "y", "z"), ("is", "z", "c"), ("and", 0, 1), ("not", 2), ("ahead", "z", "y"), Y_A,
                  ("and", 4, 5), ("some", "y", 6), ("or", 3, 7), ("each", "z", 8), ("is", "y", "b"), ("and", 9, 10),
                  X_Y, ("and", 11, 12), ("some", "y", 13), X_A, ("and", 14, 15), ("some", "x", 16))
        seen = set()
        for _ in range(60):
            text = "".join(chance.choice("abc") for _ in range(10))
            truth = holds_plainly(saying, text, {})
            seen.add(truth)
            self.assertIs(holds(saying, text, {}), truth)
        self.assertEqual(seen, {True, False})
        for many in range(1, 5):
            self.assertIs(holds(at_least("a", many), "babbbabbba", {}), many <= 3)

    def test_sixty_rows_without_measure(self):
        for word in ("and", "or"):
            rows = doubled_saying(X_A, word, 59)
            self.assertIs(holds(rows, "ba" * 5, {"x": 1}), True)
            self.assertIs(holds(rows, "ba" * 5, {"x": 0}), False)
            self.assertIs(holds(rows + (("each", "x", 58),), "a" * 10, {}), True)
            three = (X_Y, ("ahead", "y", "z"), ("and", 0, 1)) + tuple((word, at, at) for at in range(2, 59))
            self.assertIs(holds(three, "ab" * 5, {"x": 3, "y": 5, "z": 9}), True)
            self.assertIs(holds(three, "ab" * 5, {"x": 3, "y": 5, "z": 5}), False)
        bound = (X_A,) + tuple(row for at in range(0, 58, 2) for row in (("some", "y", at), ("and", at + 1, at)))
        self.assertIs(holds(bound, "bbbbbabbbb", {"x": 5}), True)
        self.assertIs(holds(bound, "bbbbbabbbb", {"x": 4}), False)

    def test_thousands_deep(self):
        deep = (X_A,) + tuple(("not", at) for at in range(3001))
        self.assertIs(holds(deep, "ab", {"x": 1}), True)
        self.assertIs(holds((X_A,) + tuple(("some", "x", at) for at in range(3000)), "ba", {}), True)

    def test_what_is_told_stays_and_nothing_is_changed(self):
        chance = random.Random(122)
        for _ in range(30):
            saying = made_saying(chance, "ab", 20)
            places = {name: chance.randrange(4) for name in ("x", "y", "ab", "a", "zz")}
            kept = copy.deepcopy(places)
            told = holds_to_point_2(self, holds, saying, "abba", places)
            holds(FIRST_A, "ba", {})
            holds(saying, "bbaabb", {name: 5 - place for name, place in places.items()})
            self.assertIs(holds(saying, "abba", places), told)
            self.assertEqual(places, kept)
            self.assertEqual(list(places), list(kept))


if __name__ == "__main__":
    unittest.main()
