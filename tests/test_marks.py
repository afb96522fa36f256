"""Point 21: marked letters, marked texts."""

import itertools
import unittest

from calmword.marks import marked_letters, marked_text
from samples import holds_to_point_2, spoil
from saysamples import all_places

NAMES = ((), ("x",), ("ab", "b"), ("a", "x", "y"))


class MarkedLetters(unittest.TestCase):
    def test_in_the_order_of_the_point(self):
        self.assertEqual(marked_letters("ba", ()), [("b", ()), ("a", ())])
        self.assertEqual(marked_letters("ba", ("x",)), [
            ("b", (False,)), ("b", (True,)), ("a", (False,)), ("a", (True,))])
        self.assertEqual(marked_letters("a", ("x", "y")), [
            ("a", (False, False)), ("a", (False, True)), ("a", (True, False)), ("a", (True, True))])

    def test_numbered_by_the_letter_and_bits(self):
        for letters in ("a", "ab", "cab", "dbca"):
            for names in NAMES:
                told = marked_letters(letters, names)
                self.assertIs(type(told), list)
                self.assertEqual(len(told), len(letters) * 2 ** len(names))
                for number, (letter, truths) in enumerate(told):
                    bits = sum(2 ** (len(names) - 1 - at) for at, truth in enumerate(truths) if truth)
                    self.assertEqual(letters.index(letter) * 2 ** len(names) + bits, number)
                    self.assertEqual((type(told[number]), type(truths), len(truths)), (tuple, tuple, len(names)))
                    self.assertTrue({type(truth) for truth in truths} <= {bool})

    def test_what_is_told_is_new_and_stays(self):
        for names in NAMES:
            holds_to_point_2(self, marked_letters, "ab", names)
            told = marked_letters("ab", names)
            spoil(told)
            told.clear()
            self.assertEqual(len(marked_letters("ab", names)), 2 * 2 ** len(names))


class MarkedText(unittest.TestCase):
    def test_one_number_for_each_place(self):
        self.assertEqual(marked_text("ab", (), "abba", {}), [0, 1, 1, 0])
        self.assertEqual(marked_text("ba", ("x",), "abba", {"x": 1}), [2, 1, 0, 2])
        self.assertEqual(marked_text("ab", ("x", "y"), "abba", {"x": 3, "y": 0}), [1, 4, 4, 2])
        self.assertEqual(marked_text("ab", ("x", "y", "z"), "ab", {"x": 1, "y": 0, "z": 1}), [2, 13])

    def test_two_names_at_one_place(self):
        self.assertEqual(marked_text("ab", ("x", "y"), "bb", {"x": 1, "y": 1}), [4, 7])
        self.assertEqual(marked_text("a", ("x", "y", "z"), "aa", {"x": 0, "y": 0, "z": 0}), [7, 0])

    def test_the_text_without_signs(self):
        self.assertEqual(marked_text("ab", (), "", {}), [])
        self.assertEqual(marked_text("ab", (), "", {"x": 0}), [])

    def test_places_with_more_names(self):
        self.assertEqual(marked_text("ab", ("y",), "ab", {"x": 0, "y": 1, "z": 0}), [0, 3])
        self.assertEqual(marked_text("ab", (), "ab", {"x": 0}), [0, 1])

    def test_the_numbers_are_those_of_marked_letters(self):
        for names in NAMES:
            for text in ("", "a", "cab", "bbca", "acbac"):
                letters = "bcad"
                numbered = marked_letters(letters, names)
                for places in itertools.islice(all_places(names, text), 130):
                    told = marked_text(letters, names, text, places)
                    self.assertIs(type(told), list)
                    self.assertEqual([numbered[number] for number in told], [
                        (sign, tuple(places[name] == at for name in names)) for at, sign in enumerate(text)])

    def test_what_is_told_is_new_and_stays(self):
        places = {"b": 2, "x": 0, "ab": 2}
        holds_to_point_2(self, marked_text, "ab", ("ab", "b"), "abba", places)
        told = marked_text("ab", ("ab", "b"), "abba", places)
        spoil(told)
        self.assertEqual(marked_text("ab", ("ab", "b"), "abba", places), [0, 4, 7, 0])
        self.assertEqual(places, {"b": 2, "x": 0, "ab": 2})


if __name__ == "__main__":
    unittest.main()
