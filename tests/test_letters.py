"""Point 4: letters, and the order of texts."""

import itertools
import unittest

from calmword.letters import all_texts, goes_first, is_letters
from samples import holds_to_point_2, texts_to


class IsLetters(unittest.TestCase):
    def test_one_to_four_unlike_signs_from_a_to_z(self):
        for text in ("a", "z", "m", "ab", "ba", "az", "zyx", "cab", "abcd", "dcba", "qwer"):
            self.assertIs(is_letters(text), True, text)

    def test_each_small_letter_by_itself(self):
        for sign in "abcdefghijklmnopqrstuvwxyz":
            self.assertIs(is_letters(sign), True, sign)

    def test_too_few_and_too_many(self):
        for text in ("", "abcde", "edcba", "abcdefghijklmnopqrstuvwxyz"):
            self.assertIs(is_letters(text), False, text)

    def test_a_letter_twice(self):
        for text in ("aa", "aba", "abca", "abbc", "zzzz", "aab"):
            self.assertIs(is_letters(text), False, text)

    def test_another_sign(self):
        for sign in "AZ059 `{-_.|&~!\n\t\"'\u00e4\u00df\u0430":
            for text in (sign, "a" + sign, sign + "a", "ab" + sign + "c"):
                self.assertIs(is_letters(text), False, repr(text))

    def test_the_same_question_has_the_same_answer(self):
        for text in ("", "ab", "aa", "abcde"):
            holds_to_point_2(self, is_letters, text)


class GoesFirst(unittest.TestCase):
    def test_fewer_signs_go_first(self):
        for one, other in (("", "a"), ("b", "aa"), ("bb", "aaa"), ("", "bbb")):
            self.assertIs(goes_first("ab", one, other), True)
            self.assertIs(goes_first("ab", other, one), False)

    def test_else_the_first_place_at_which_they_differ(self):
        for one, other in (("a", "b"), ("ab", "ba"), ("abb", "baa"), ("aab", "aba"), ("bba", "bbb")):
            self.assertIs(goes_first("ab", one, other), True)
            self.assertIs(goes_first("ab", other, one), False)

    def test_letters_not_in_the_order_of_the_alphabet(self):
        self.assertIs(goes_first("ba", "b", "a"), True)
        self.assertIs(goes_first("ba", "a", "b"), False)
        self.assertIs(goes_first("zma", "zz", "zm"), True)
        self.assertIs(goes_first("zma", "ma", "az"), True)
        self.assertIs(goes_first("zma", "aaz", "maa"), False)

    def test_not_ahead_of_itself(self):
        for text in ("", "a", "ab", "bbbb"):
            self.assertIs(goes_first("ab", text, text), False)

    def test_all_pairs_of_short_texts(self):
        for letters in ("a", "ba", "cab", "dbca"):
            texts = texts_to(letters, 3)
            for i, j in itertools.product(range(len(texts)), repeat=2):
                self.assertIs(goes_first(letters, texts[i], texts[j]), i < j)

    def test_sixty_signs(self):
        self.assertIs(goes_first("ba", "b" * 60, "b" * 59 + "a"), True)
        self.assertIs(goes_first("ba", "b" * 59 + "a", "b" * 60), False)
        self.assertIs(goes_first("ba", "a" * 59, "b" * 60), True)

    def test_the_same_question_has_the_same_answer(self):
        holds_to_point_2(self, goes_first, "ba", "ab", "ba")


class AllTexts(unittest.TestCase):
    def test_no_signs(self):
        for letters in ("a", "ba", "dcba"):
            self.assertEqual(all_texts(letters, 0), [""])

    def test_in_the_order_of_the_letters(self):
        self.assertEqual(all_texts("ab", 2), ["", "a", "b", "aa", "ab", "ba", "bb"])
        self.assertEqual(all_texts("ba", 2), ["", "b", "a", "bb", "ba", "ab", "aa"])
        self.assertEqual(all_texts("x", 3), ["", "x", "xx", "xxx"])

    def test_all_of_them_up_to_six_signs(self):
        for letters in ("a", "ba", "cab", "dbca"):
            for most in range(7):
                self.assertEqual(all_texts(letters, most), texts_to(letters, most))

    def test_each_goes_ahead_of_the_one_behind_it(self):
        texts = all_texts("cab", 4)
        self.assertEqual(len(texts), len(set(texts)))
        for one, other in zip(texts, texts[1:]):
            self.assertIs(goes_first("cab", one, other), True)

    def test_a_new_list_each_time(self):
        for most in (0, 1, 3):
            holds_to_point_2(self, all_texts, "ba", most)


if __name__ == "__main__":
    unittest.main()
