"""Point 24: sayings as texts."""

import itertools
import random
import unittest

from calmword.errors import BadText, TooLong
from calmword.sayings import look_saying
from calmword.sayingtexts import read_saying, show_saying
from samples import holds_to_point_2, refused
from saysamples import A_AHEAD_OF_B, EACH_A, FIRST_A, SOME_PLACE, X_A, X_B, X_Y, Y_B, Y_X, YES, at_least
from saysamples import doubled_saying, far_ahead, made_sayings
from tellings import rows_of_tree, tree_of

# What is written for a saying, by its last row and what that rests on.
WRITTEN = (
    ((YES,), "yes"), ((X_A,), "x is a"), ((("is", "abc", "z"),), "abc is z"), ((X_Y,), "x < y"),
    ((("ahead", "b", "ab"),), "b < ab"), ((("ahead", "x", "x"),), "x < x"), ((YES, ("not", 0)), "not yes"),
    ((X_A, ("not", 0), ("not", 1)), "not not x is a"), ((X_A, X_B, ("and", 0, 1)), "(x is a and x is b)"),
    ((X_A, X_B, ("or", 1, 0)), "(x is b or x is a)"), ((X_A, ("and", 0, 0)), "(x is a and x is a)"),
    (SOME_PLACE, "some x yes"), (EACH_A, "each x x is a"), ((X_A, ("some", "zz", 0)), "some zz x is a"),
    ((X_A, X_B, ("or", 0, 1), ("not", 2)), "not (x is a or x is b)"),
    ((X_A, ("not", 0), X_B, ("or", 1, 2)), "(not x is a or x is b)"),
    ((X_A, X_B, ("and", 0, 1), Y_B, ("or", 2, 3)), "((x is a and x is b) or y is b)"),
    ((X_A, X_B, Y_B, ("and", 1, 2), ("and", 0, 3)), "(x is a and (x is b and y is b))"),
    ((X_Y, ("some", "y", 0), ("each", "x", 1)), "each x some y x < y"),
    ((X_Y, ("some", "y", 0), X_A, ("and", 1, 2), ("some", "x", 3)), "some x (some y x < y and x is a)"),
    (A_AHEAD_OF_B, "some x some y ((x is a and y is b) and x < y)"),
    (FIRST_A, "some x (x is a and not some y y < x)"),
    # Rows on which the last one doesn't rest aren't written.
    ((X_A, X_B, ("or", 0, 1), Y_X), "y < x"), ((X_A, X_B, ("not", 0)), "not x is a"))

GRAMMAR = (
    ("yes",), ("NAME", "is", "LETTER"), ("NAME", "<", "NAME"), ("not", "S"), ("(", "S", "and", "S", ")"),
    ("(", "S", "or", "S", ")"), ("some", "NAME", "S"), ("each", "NAME", "S"))
SMALL = "abcdefghijklmnopqrstuvwxyz"


def fits_plainly(due, word):
    if due == "NAME":
        return 1 <= len(word) <= 3 and set(word) <= set(SMALL) and word not in ("yes", "is", "not", "and", "or")
    if due == "LETTER":
        return len(word) == 1 and word in SMALL
    return due == word


def words_plainly(text):
    words, word = [], ""
    for sign in text + " ":
        if sign in " ()":
            words.extend([word] if word else [])
            words.extend([sign] if sign != " " else [])
            word = ""
        else:
            word += sign
    return words


def fails_at(words):
    """The number of the first word with which no saying can go on, or how many there are, or None: by all that may
    still be due, walked for all forms of point 24 at once."""
    open_ends = {("S",)}
    for at, word in enumerate(words):
        further = set()
        for due in open_ends:
            forms = [form + due[1:] for form in GRAMMAR] if due[:1] == ("S",) else [due] if due else []
            further.update(form[1:] for form in forms if fits_plainly(form[0], word))
        if not further:
            return at
        open_ends = further
    return None if () in open_ends else len(words)


def tree_plainly(words):
    """What the words of a saying are put together to."""
    word = words.pop(0)
    if word == "yes":
        return (word,)
    if word == "not":
        return (word, tree_plainly(words))
    if word in ("some", "each"):
        name = words.pop(0)
        return (word, name, tree_plainly(words))
    if word == "(":
        left = tree_plainly(words)
        join = words.pop(0)
        right = tree_plainly(words)
        words.pop(0)
        return (join, left, right)
    return (("is" if words.pop(0) == "is" else "ahead"), word, words.pop(0))


class Show(unittest.TestCase):
    def test_each_kind_of_row(self):
        for saying, text in WRITTEN:
            self.assertEqual(show_saying(saying), text)

    def test_any_sayings(self):
        for _, saying in made_sayings(150, 300, 12):
            text = show_saying(saying)
            self.assertEqual(tree_plainly(words_plainly(text)), tree_of(saying))
            self.assertEqual(" ".join(words_plainly(text)).replace("( ", "(").replace(" )", ")"), text)

    def test_too_long_from_more_than_100000_signs_on(self):
        # A not is four signs, `some x ` seven, `x is a` six.
        nots = (X_A,) + tuple(("not", at) for at in range(24995)) + (("some", "x", 24995), ("some", "x", 24996))
        self.assertEqual(len(show_saying(nots[:-1])), 6 + 4 * 24995 + 7)
        self.assertEqual(len(show_saying(nots[:-2])), 99986)
        self.assertEqual(len(show_saying(nots)), 100000)
        refused(self, TooLong, show_saying, nots + (("not", len(nots) - 1),))
        longer = (("is", "xx", "a"),) + nots[1:]
        refused(self, TooLong, show_saying, longer)
        self.assertEqual(len(show_saying(longer[:-1])), 99994)

    def test_brackets_and_blanks_count(self):
        # (S and S) is seven signs more than both.
        lengths = [len(show_saying(doubled_saying(YES, "and", rows))) for rows in range(1, 15)]
        self.assertEqual(lengths, [10 * 2 ** step - 7 for step in range(14)])
        refused(self, TooLong, show_saying, doubled_saying(YES, "and", 15))
        # 81,913 signs, 6 of the or, and 18,081 of nots, somes and an or.
        rows = doubled_saying(YES, "and", 14)
        rest = (X_A,) + tuple(("not", at + 14) for at in range(4515)) + (("some", "x", 4529), ("some", "xy", 4530))
        self.assertEqual(len(show_saying(rest_alone(rest, 14))), 18081)
        just = rows + rest + (("or", 13, len(rows + rest) - 1),)
        self.assertEqual(len(show_saying(just)), 100000)
        refused(self, TooLong, show_saying, rows + rest + (("and", 13, len(rows + rest) - 1),))
        refused(self, TooLong, show_saying, just + (("not", len(just) - 1),))

    def test_without_measure(self):
        for word in ("and", "or"):
            refused(self, TooLong, show_saying, doubled_saying(X_A, word, 60))
            refused(self, TooLong, show_saying, doubled_saying(X_A, word, 3000))
            # Rows on which the last one doesn't rest don't count.
            self.assertEqual(show_saying(doubled_saying(X_A, word, 60) + (X_Y, ("not", 60))), "not x < y")
        refused(self, TooLong, show_saying, doubled_saying(X_A, "and", 59) + (("each", "x", 58),))


def rest_alone(rows, shift):
    return tuple(tuple(part - shift if isinstance(part, int) else part for part in row) for row in rows)


class Read(unittest.TestCase):
    def test_what_is_written_is_read(self):
        for saying, text in WRITTEN:
            told = read_saying(text)
            self.assertEqual(told, rows_of_tree(tree_of(saying)))
            self.assertEqual(show_saying(told), text)
        for letters, saying in made_sayings(151, 300, 12):
            told = read_saying(show_saying(saying))
            self.assertEqual(told, rows_of_tree(tree_of(saying)))
            self.assertIs(look_saying(letters, told), True)

    def test_none_twice_and_in_order(self):
        self.assertEqual(read_saying("((x is b or x is a) and (x is b or x is a))"),
                         (X_B, X_A, ("or", 0, 1), ("and", 2, 2)))
        self.assertEqual(read_saying("(x is b or (not x < y and x is b))"),
                         (X_B, X_Y, ("not", 1), ("and", 2, 0), ("or", 0, 3)))

    def test_blanks(self):
        for text, plain in (
                (" yes", "yes"), ("yes   ", "yes"), ("  yes ", "yes"), ("x   is a", "x is a"), ("x <   y", "x < y"),
                ("not   yes", "not yes"), ("( yes and yes )", "(yes and yes)"),
                ("  (   yes   or   yes   )  ", "(yes or yes)"), ("not(yes or yes)", "not (yes or yes)"),
                ("some x(yes or yes)", "some x (yes or yes)"), ("((yes and yes)or(yes and yes))",
                                                                "((yes and yes) or (yes and yes))"),
                ("(x is a and(x is b or yes))", "(x is a and (x is b or yes))"),
                ("(not(yes or yes)and yes)", "(not (yes or yes) and yes)"), (" some  x  x is a ", "some x x is a")):
            self.assertEqual(read_saying(text), read_saying(plain))
            self.assertEqual(show_saying(read_saying(text)), plain)

    def test_names_like_words(self):
        for name in ("ye", "i", "iss", "no", "nto", "an", "ad", "o", "r", "som", "ome", "eac", "ach", "s", "e", "ahe"):
            self.assertEqual(read_saying(f"{name} is a"), (("is", name, "a"),))
            self.assertEqual(read_saying(f"{name} < {name}"), (("ahead", name, name),))
            self.assertEqual(read_saying(f"each {name} yes"), (YES, ("each", name, 0)))
            self.assertEqual(read_saying(f"some {name} not {name} is {name[0]}"),
                             (("is", name, name[0]), ("not", 0), ("some", name, 1)))
        for word in ("yes", "is", "not", "and", "or", "some", "each", "ahead", "abcd", "X", "x1", "x<y", "<", "-",
                     "a_"):
            self.assertEqual(refused(self, BadText, read_saying, f"some {word} yes").at, 1, word)
            self.assertEqual(refused(self, BadText, read_saying, f"x < {word}").at, 2, word)
            self.assertEqual(refused(self, BadText, read_saying, f"x is {word}").at, 2, word)

    def test_texts_that_are_none(self):
        for text, at in (
                ("", 0), (" ", 0), ("     ", 0), ("\n", 0), ("yes\n", 0), ("\nyes", 0), ("yes \n", 1), ("not\nyes", 0),
                ("x\nis a", 0), ("x is a\n", 2), ("YES", 0), ("y es", 1), ("x", 1), ("x is", 2), ("x <", 2), ("x y", 1),
                ("x is ab", 2), ("x is A", 2), ("x is 0", 2), ("x is (", 2), ("x<y", 0), ("x< y", 0), ("x <y", 1),
                ("x is a b", 3), ("x = y", 1), ("x > y", 1), ("x is not a", 2), ("is is a", 0), ("not", 1),
                ("not not", 2), ("not and", 1), ("some", 1), ("some x", 2), ("some yes", 1), ("some x y", 3),
                ("some x, yes", 1), ("some (x) yes", 1), ("each", 1), ("each x each", 3), ("each each yes", 1),
                ("(", 1), (")", 0), ("()", 1), ("(yes", 2), ("(yes)", 2), ("(yes and", 3), ("(yes and yes", 4),
                ("(yes and yes))", 5), ("((yes and yes)", 6), ("(yes, yes)", 1), ("(yes and yes or yes)", 4),
                ("(yes not yes)", 2), ("yes and yes", 1), ("yes yes", 1), ("yes (", 1), ("yes )", 1),
                ("(yes and yes) and yes", 5), ("(yes and and yes)", 3), ("(and yes)", 1), ("(x is a and y is)", 7),
                ("(yes AND yes)", 2), ("xyzw is a", 0), ("x is a and y is b", 3), ("[yes]", 0), ("x is a.", 2)):
            self.assertEqual(fails_at(words_plainly(text)), at, text)
            self.assertEqual(refused(self, BadText, read_saying, text).at, at, text)

    def test_all_rows_of_few_words(self):
        good = 0
        vocabulary = ("yes", "x", "is", "<", "not", "(", ")", "and", "some", "some.")
        for length in range(6):
            for words in itertools.product(vocabulary[:8] if length == 5 else vocabulary, repeat=length):
                at = fails_at(words)
                text = " ".join(words)
                if at is None:
                    good += 1
                    self.assertEqual(read_saying(text), rows_of_tree(tree_plainly(list(words))), text)
                else:
                    with self.assertRaises(BadText) as caught:
                        read_saying(text)
                    self.assertEqual(caught.exception.at, at, text)
        self.assertGreater(good, 10)

    def test_words_left_out_put_in_exchanged(self):
        chance = random.Random(152)
        extra = ("yes", "x", "is", "<", "not", "(", ")", "and", "or", "some", "each", "a", "ab", "abcd", "q", "\n")
        bad = 0
        for _, saying in made_sayings(153, 300, 12):
            words = words_plainly(show_saying(saying))
            for _ in range(8):
                changed = list(words)
                place = chance.randrange(len(words) + 1)
                if chance.random() < 0.3:
                    changed.insert(place, chance.choice(extra))
                elif chance.random() < 0.5:
                    changed[place:place + 1] = []
                else:
                    changed[place:place + 1] = [chance.choice(extra)]
                text = " ".join(changed)
                at = fails_at(changed)
                if at is None:
                    self.assertEqual(read_saying(text), rows_of_tree(tree_plainly(changed)))
                else:
                    bad += 1
                    self.assertEqual(refused(self, BadText, read_saying, text).at, at, text)
        self.assertGreater(bad, 1000)

    def test_bounds_of_rows_and_free_names_are_not_looked_at(self):
        free = read_saying("((x < y and z < u) or (v < w and abc is q))")
        self.assertEqual(free, (X_Y, ("ahead", "z", "u"), ("and", 0, 1), ("ahead", "v", "w"), ("is", "abc", "q"),
                                ("and", 3, 4), ("or", 2, 5)))
        many = read_saying("not " * 100 + "x is z")
        self.assertEqual(many, (("is", "x", "z"),) + tuple(("not", at) for at in range(100)))

    def test_sixty_within_one_another(self):
        self.assertEqual(read_saying("not " * 60 + "yes"), (YES,) + tuple(("not", at) for at in range(60)))
        for word in ("some", "each"):
            self.assertEqual(read_saying(f"{word} x " * 60 + "x is a"),
                             (X_A,) + tuple((word, "x", at) for at in range(60)))
            self.assertEqual(refused(self, BadText, read_saying, f"{word} x " * 60).at, 120)
        left = "(" * 60 + "yes" + " and x is a)" * 60
        right = "(x is a or " * 60 + "yes" + ")" * 60
        self.assertEqual(read_saying(left), (YES, X_A, ("and", 0, 1)) + tuple(("and", at, 1) for at in range(2, 61)))
        self.assertEqual(read_saying(right), (X_A, YES, ("or", 0, 1)) + tuple(("or", 0, at) for at in range(2, 61)))
        self.assertEqual(refused(self, BadText, read_saying, left + ")").at, 60 + 1 + 5 * 60)
        self.assertEqual(refused(self, BadText, read_saying, left[:-1]).at, 60 + 5 * 60)
        self.assertEqual(refused(self, BadText, read_saying, "(" + right).at, 1 + 5 * 60 + 1 + 60)
        self.assertEqual(refused(self, BadText, read_saying, "not " * 60).at, 60)

    def test_what_was_told_is_read_whatever_its_size(self):
        for saying in (at_least("a", 30), far_ahead(6), (X_A,) + tuple(("not", at) for at in range(20000)),
                       (X_A,) + tuple(("and", 0, at) for at in range(5000)),
                       (X_A,) + tuple(("or", at, 0) for at in range(5000))):
            text = show_saying(saying)
            told = read_saying(text)
            self.assertEqual(show_saying(told), text)
            self.assertLessEqual(len(told), len(saying))


class NewAndTheSame(unittest.TestCase):
    def test_what_is_told_is_new_and_stays(self):
        for saying, text in WRITTEN[::3]:
            told = holds_to_point_2(self, show_saying, saying)
            read = holds_to_point_2(self, read_saying, text)
            refused(self, BadText, read_saying, text + ")")
            refused(self, TooLong, show_saying, doubled_saying(X_A, "and", 60))
            self.assertEqual((show_saying(saying), read_saying(text)), (told, read))


if __name__ == "__main__":
    unittest.main()
