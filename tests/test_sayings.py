"""Point 20: names, the look at sayings, free names, depths."""

import itertools
import random
import unittest

from calmword.errors import BadRow
from calmword.sayings import depth_of, free_names, is_name, look_saying
from samples import holds_to_point_2, refused
from saysamples import A_AHEAD_OF_B, EACH_A, FIRST_A, SOME_PLACE, X_A, X_Y, Y_A, Y_B, Y_X, Y_Z, YES, Z_A, Z_X
from saysamples import at_least, doubled_saying, made_saying, made_sayings, names_by_row

SMALL = "abcdefghijklmnopqrstuvwxyz"


def depth_plainly(saying, at=-1):
    row = saying[at]
    inner = max([depth_plainly(saying, part) for part in row if isinstance(part, int)], default=0)
    return inner + (row[0] in ("some", "each"))


class Names(unittest.TestCase):
    def test_one_to_three_letters_from_a_to_z(self):
        no_names = ("yes", "is", "not", "and", "or")
        for length in range(1, 4):
            for signs in itertools.product(SMALL, repeat=length):
                text = "".join(signs)
                self.assertIs(is_name(text), text not in no_names, text)

    def test_other_texts(self):
        for text in ("", "abcd", "some", "each", "ahead", "A", "aB", "Yes", "x1", "1", " ", "x ", " x", "a b", "-",
                     "a.", "x\n", "\n", "\u00e4", "x\u00df", "`", "{", "a" * 60, "0", "<", "yess", "no t"):
            self.assertIs(is_name(text), False, text)
        for text in ("no", "ye", "nots", "i", "s", "ors", "ano", "an", "nor", "iss", "zzz", "all"):
            self.assertIs(is_name(text), len(text) < 4, text)


class Look(unittest.TestCase):
    def test_good_ones(self):
        for saying in (SOME_PLACE, EACH_A, A_AHEAD_OF_B, FIRST_A, (YES,), (X_A,), (X_Y,), (("ahead", "x", "x"),),
                       doubled_saying(X_A, "and", 60), at_least("b", 12)):
            self.assertIs(look_saying("ab", saying), True)
        for letters, saying in made_sayings(110, 200, 60, ("a", "ba", "dbca")):
            self.assertIs(look_saying(letters, saying), True)

    def test_without_rows(self):
        self.assertEqual(refused(self, BadRow, look_saying, "ab", ()).at, 0)

    def test_rows_without_such_a_form(self):
        bad = [
            (), ("",), ("no",), ("Yes",), ("behind", 0, 1), ("nothing",), ("letter", "a"), ("x", "is", "a"),
            ("<", "x", "y"), ("yes", 0), ("yes", "x"), ("yes", ""),
            ("is",), ("is", "x"), ("is", "x", "c"), ("is", "x", ""), ("is", "x", "ab"), ("is", "x", "ba"),
            ("is", "x", 0), ("is", 0, "a"), ("is", "", "a"), ("is", "is", "a"), ("is", "wxyz", "a"), ("is", "X", "a"),
            ("is", "x1", "a"),
            ("is", "x", "a", "a"), ("is", "x", "x"), ("is", "x", "A"), ("is", "yes", "a"),
            ("ahead",), ("ahead", "x"), ("ahead", "x", "y", "z"), ("ahead", 0, "y"), ("ahead", "x", 0), ("ahead", 0, 1),
            ("ahead", "x", "not"), ("ahead", "or", "x"), ("ahead", "and", "and"), ("ahead", "x", ""),
            ("ahead", "", "x"), ("ahead", "x", "abcd"),
            ("not",), ("not", 0, 0), ("not", 2), ("not", 3), ("not", -1), ("not", 10 ** 30), ("not", "x"), ("not", "0"),
            ("not", ""), ("not", 0, "x")]
        for word in ("and", "or"):
            bad += [(word,), (word, 0), (word, 0, 0, 0), (word, 0, 2), (word, 2, 0), (word, -1, 0), (word, 0, -1),
                    (word, 0, "x"), (word, "x", 0), (word, "x", "y"), (word, 0, 10 ** 30), (word, "0", "1")]
        for word in ("some", "each"):
            bad += [(word,), (word, "x"), (word, 0), (word, "x", 2), (word, "x", 9), (word, "x", -1), (word, "x", "y"),
                    (word, "x", ""), (word, 0, 0), (word, 0, "x"), (word, "", 0), (word, "or", 0), (word, "wxyz", 0),
                    (word, "X", 0), (word, "x", 0, 0), (word, "x", "y", 0), (word, "x", 10 ** 30), (word, "yes", 1)]
        for row in bad:
            for tail in ((), (X_A,), (("not", 0), ("or", 1, 3))):
                self.assertEqual(refused(self, BadRow, look_saying, "ab", (X_A, X_Y, row) + tail).at, 2, row)

    def test_the_first_such_row(self):
        self.assertEqual(refused(self, BadRow, look_saying, "ab", (("not", 0), ("is", "x", "c"))).at, 0)
        self.assertEqual(refused(self, BadRow, look_saying, "ab", (X_A, ("not", 1), ("is", "x", "c"))).at, 1)
        self.assertEqual(refused(self, BadRow, look_saying, "ab", (X_A, ("or", 0, 0), ("some", "x", 2), ())).at, 2)
        rows = doubled_saying(X_A, "or", 59)
        self.assertEqual(refused(self, BadRow, look_saying, "ab", rows + (("some", "x", 59),)).at, 59)
        self.assertIs(look_saying("ab", rows + (("some", "x", 58),)), True)

    def test_more_than_three_free_names(self):
        four = (X_Y, Y_Z, ("and", 0, 1), ("is", "u", "a"), ("or", 2, 3))
        self.assertIs(look_saying("ab", four[:4]), True)
        self.assertEqual(refused(self, BadRow, look_saying, "ab", four).at, 4)
        self.assertEqual(refused(self, BadRow, look_saying, "ab", four + (("some", "u", 4),)).at, 4)
        # What goes ahead in the rows counts, of whichever sort.
        self.assertEqual(refused(self, BadRow, look_saying, "ab", four + ((),)).at, 4)
        self.assertEqual(refused(self, BadRow, look_saying, "ab", four[:4] + ((),) + four[4:]).at, 4)
        # Bound ahead of it, there are three.
        self.assertIs(look_saying("ab", four[:4] + (("some", "x", 2), ("or", 4, 3))), True)
        self.assertIs(look_saying("ab", four[:4] + (("each", "z", 2), ("or", 4, 3))), True)
        self.assertEqual(refused(self, BadRow, look_saying, "ab", four[:4] + (("each", "u", 2), ("or", 4, 3))).at, 5)

    def test_by_the_letters(self):
        self.assertEqual(refused(self, BadRow, look_saying, "b", (X_A,)).at, 0)
        self.assertIs(look_saying("cab", (("is", "x", "c"),)), True)


class FreeNames(unittest.TestCase):
    def test_each_kind_of_row(self):
        for saying, names in (
                ((YES,), ()), ((X_A,), ("x",)), ((X_Y,), ("x", "y")), ((Y_X,), ("x", "y")),
                ((("ahead", "x", "x"),), ("x",)), ((X_A, ("not", 0)), ("x",)), ((X_A, Y_A, ("and", 1, 0)), ("x", "y")),
                ((X_Y, Z_A, ("or", 1, 0)), ("x", "y", "z")), ((X_A, ("some", "x", 0)), ()),
                ((X_A, ("each", "x", 0)), ()),
                ((X_A, ("some", "y", 0)), ("x",)), ((X_Y, ("some", "x", 0)), ("y",)), ((X_Y, ("each", "y", 0)), ("x",)),
                ((X_A, ("some", "x", 0), Y_A), ("y",)), ((X_A, ("some", "x", 0), ("and", 0, 1)), ("x",)),
                ((YES, ("each", "x", 0)), ()), (A_AHEAD_OF_B, ()), (FIRST_A[:5], ("x",))):
            self.assertEqual(free_names(saying), names, saying)
            self.assertIs(type(free_names(saying)), tuple)

    def test_they_rise_as_texts(self):
        for names in itertools.permutations(("b", "ab", "a", "abc", "aa")):
            saying = (("ahead", names[0], names[1]), ("is", names[2], "a"), ("and", 1, 0))
            self.assertEqual(free_names(saying), tuple(sorted(names[:3])))
        self.assertEqual(free_names((("ahead", "b", "ab"),)), ("ab", "b"))

    def test_any_sayings(self):
        for _, saying in made_sayings(111, 200, 14):
            self.assertEqual(free_names(saying), names_by_row(saying)[-1])

    def test_many_rows(self):
        self.assertEqual(free_names(doubled_saying(X_Y, "and", 60)), ("x", "y"))
        deep = (X_Y,) + tuple(("not", at) for at in range(3000))
        self.assertEqual(free_names(deep), ("x", "y"))


class Depth(unittest.TestCase):
    def test_somes_and_eaches_within_one_another(self):
        for saying, depth in (
                ((YES,), 0), ((X_A,), 0), ((X_A, ("not", 0)), 0), ((X_A, ("some", "x", 0)), 1), (EACH_A, 1),
                (A_AHEAD_OF_B, 2), (FIRST_A, 2), (EACH_A + (X_A,), 0), (EACH_A + (("not", 1),), 1),
                (EACH_A + (("some", "x", 1),), 2), (EACH_A + (X_Y, ("or", 1, 2)), 1),
                (EACH_A + (X_Y, ("and", 2, 1)), 1),
                ((YES, ("some", "x", 0), ("each", "x", 1), ("some", "y", 2), ("and", 1, 3)), 3),
                ((YES, ("some", "x", 0), ("each", "x", 1), ("some", "y", 2), ("or", 3, 1)), 3),
                (at_least("a", 5), 5)):
            self.assertEqual(depth_of(saying), depth, saying)

    def test_any_sayings(self):
        for _, saying in made_sayings(112, 200, 14):
            self.assertEqual(depth_of(saying), depth_plainly(saying))

    def test_many_rows(self):
        self.assertEqual(depth_of(doubled_saying(X_A, "or", 60)), 0)
        self.assertEqual(depth_of((X_A,) + tuple(("some", "x", at) for at in range(3000))), 3000)
        self.assertEqual(depth_of((X_A,) + tuple(("each", "x", at) for at in range(59))), 59)


class NewAndTheSame(unittest.TestCase):
    def test_what_is_told_is_new_and_stays(self):
        chance = random.Random(113)
        for saying in (A_AHEAD_OF_B, FIRST_A, (X_Y, Z_X, Y_B, ("or", 0, 1)), made_saying(chance, "ab", 60)):
            for function, things in ((look_saying, ("ab", saying)), (free_names, (saying,)), (depth_of, (saying,))):
                told = holds_to_point_2(self, function, *things)
                refused(self, BadRow, look_saying, "ab", saying + ((),))
                free_names(EACH_A)
                self.assertEqual(function(*things), told)


if __name__ == "__main__":
    unittest.main()
