"""Points 13, 14 and 15, and the stand number of point 16."""

import random
import unittest

from calmword.errors import BadRow
from calmword.expressions import look_expression, stand_number, tells, tidied
from samples import holds_to_point_2, refused, texts_to
from tellings import A, ALL, B, BEGINS_A, BLANK, C, HAS_AB, JOINS, NO_B, NOTHING, doubled, made_expression
from tellings import made_expressions, rows_of_tree, texts_by_row, tree_of


def told_plainly(letters, expression, most):
    return [text for text in texts_to(letters, most) if tells(letters, expression, text)]


class Tells(unittest.TestCase):
    def test_each_kind_of_row(self):
        every = texts_to("ab", 3)
        for expression, texts in (
                ((NOTHING,), []), ((BLANK,), [""]), ((A,), ["a"]), ((B,), ["b"]),
                ((A, ("not", 0)), [text for text in every if text != "a"]),
                ((NOTHING, ("not", 0)), every), ((BLANK, ("not", 0)), every[1:]),
                ((A, B, ("or", 0, 1)), ["a", "b"]), ((A, B, ("and", 0, 1)), []), ((A, ("and", 0, 0)), ["a"]),
                ((A, BLANK, ("not", 1), ("and", 0, 2)), ["a"]),
                ((A, B, ("behind", 0, 1)), ["ab"]), ((A, B, ("behind", 1, 0)), ["ba"]),
                ((A, ("behind", 0, 0)), ["aa"]), ((A, BLANK, ("behind", 0, 1)), ["a"]),
                ((A, BLANK, ("behind", 1, 0)), ["a"]), ((A, NOTHING, ("behind", 0, 1)), []),
                ((BLANK, ("behind", 0, 0)), [""])):
            self.assertEqual(told_plainly("ab", expression, 3), texts, expression)

    def test_some_cut_of_the_text(self):
        for text in texts_to("ab", 6):
            self.assertIs(tells("ab", ALL, text), True)
            self.assertIs(tells("ab", BEGINS_A, text), text[:1] == "a")
            self.assertIs(tells("ab", HAS_AB, text), "ab" in text)
            self.assertIs(tells("ab", NO_B, text), "b" not in text)

    def test_any_expressions(self):
        for letters, expression in made_expressions(80, 250, 12):
            most = 4 if len(letters) > 2 else 5
            self.assertEqual(set(told_plainly(letters, expression, most)),
                             texts_by_row(letters, expression, most)[-1], (letters, expression))

    def test_texts_of_twelve_signs(self):
        chance = random.Random(81)
        for _ in range(200):
            text = "".join(chance.choice("ab") for _ in range(12))
            self.assertIs(tells("ab", HAS_AB, text), "ab" in text)
            self.assertIs(tells("ab", NO_B, text), "b" not in text)
        self.assertIs(tells("ba", doubled(A, "behind", 3) + (("behind", 2, 2), ("behind", 2, 3)), "a" * 12), True)
        self.assertIs(tells("ba", doubled(A, "behind", 3) + (("behind", 2, 2), ("behind", 2, 3)), "a" * 11), False)

    def test_the_last_row_counts(self):
        self.assertEqual(told_plainly("ab", (A, B, NOTHING), 2), [])
        self.assertEqual(told_plainly("ab", (NOTHING, ("not", 0), B), 2), ["b"])

    def test_sixty_rows_without_measure(self):
        self.assertIs(tells("ab", doubled(A, "behind", 60), "a" * 12), False)
        self.assertIs(tells("ab", doubled(BLANK, "behind", 60), ""), True)
        self.assertIs(tells("ab", doubled(A, "or", 60), "a"), True)
        self.assertIs(tells("ab", doubled(A, "and", 60), "b"), False)
        self.assertIs(tells("ab", (NOTHING, ("not", 0)) + tuple(("behind", at, at) for at in range(1, 59)), "ab" * 6),
                      True)

    def test_thousands_deep(self):
        deep = (A,) + tuple(("not", at) for at in range(3001))
        self.assertEqual(told_plainly("a", deep, 3), ["", "aa", "aaa"])
        line = (A,) + tuple(("behind", at, 0) for at in range(3000))
        self.assertIs(tells("a", line, "a" * 12), False)


class Look(unittest.TestCase):
    def test_good_ones(self):
        for expression in (ALL, BEGINS_A, HAS_AB, NO_B, (A,), (NOTHING,), (BLANK,), doubled(A, "behind", 60)):
            self.assertIs(look_expression("ab", expression), True)
        for letters, expression in made_expressions(82, 200, 60, ("a", "ba", "dbca", "xyz")):
            self.assertIs(look_expression(letters, expression), True)

    def test_without_rows(self):
        self.assertEqual(refused(self, BadRow, look_expression, "ab", ()).at, 0)

    def test_rows_without_such_a_form(self):
        bad = [
            (), ("",), ("no",), ("Not", 0), ("letters", "a"), ("some", "x", 0), ("yes",), ("nothing ",), ("a",), ("0",),
            ("nothing", 0), ("nothing", "a"), ("blank", 0), ("blank", "a"), ("blank", ""),
            ("letter",), ("letter", ""), ("letter", "c"), ("letter", "ab"), ("letter", "ba"), ("letter", "aa"),
            ("letter", "A"), ("letter", "a", "a"), ("letter", "a", 0), ("letter", 0), ("letter", "a "),
            ("not",), ("not", 2), ("not", 3), ("not", 59), ("not", -1), ("not", -2), ("not", 10 ** 30),
            ("not", "a"), ("not", ""), ("not", "0"), ("not", 0, 0), ("not", 0, "a")]
        for word in JOINS:
            bad += [(word,), (word, 0), (word, 0, 0, 0), (word, 0, 2), (word, 2, 0), (word, 0, -1), (word, -1, 0),
                    (word, 0, 3), (word, 0, 10 ** 30), (word, "a", 0), (word, 0, "a"), (word, "a", "b"),
                    (word, 0, "0"), (word, 0, "")]
        for row in bad:
            for tail in ((), (A,), (("not", 0), ("or", 1, 3))):
                self.assertEqual(refused(self, BadRow, look_expression, "ab", (A, B, row) + tail).at, 2, row)

    def test_the_first_such_row(self):
        self.assertEqual(refused(self, BadRow, look_expression, "ab", (("not", 0), ("letter", "c"))).at, 0)
        self.assertEqual(refused(self, BadRow, look_expression, "ab", (("letter", "c"), ("not", 5), A)).at, 0)
        self.assertEqual(refused(self, BadRow, look_expression, "ab", (A, ("not", 1), ("letter", "c"))).at, 1)
        self.assertEqual(refused(self, BadRow, look_expression, "ab", (A, ("or", 0, 0), ("or", 1, 2), ())).at, 2)
        rows = doubled(A, "or", 59)
        self.assertEqual(refused(self, BadRow, look_expression, "ab", rows + (("or", 58, 59),)).at, 59)
        self.assertIs(look_expression("ab", rows + (("or", 58, 57),)), True)

    def test_by_the_letters(self):
        self.assertEqual(refused(self, BadRow, look_expression, "ba", (A, B, C)).at, 2)
        self.assertIs(look_expression("cba", (A, B, C)), True)
        self.assertEqual(refused(self, BadRow, look_expression, "b", (A,)).at, 0)


class Tidied(unittest.TestCase):
    def test_just_the_rows_on_which_the_last_rests(self):
        self.assertEqual(tidied((A, B, C, ("not", 1))), (B, ("not", 0)))
        self.assertEqual(tidied((A, ("not", 0), B)), (B,))
        self.assertEqual(tidied((NOTHING,)), (NOTHING,))

    def test_none_twice(self):
        self.assertEqual(tidied((A, A, ("or", 0, 1))), (A, ("or", 0, 0)))
        self.assertEqual(tidied((BLANK, A, BLANK, ("behind", 0, 2))), (BLANK, ("behind", 0, 0)))
        # The last two ors become one only because their parts do.
        self.assertEqual(tidied((A, B, ("or", 0, 1), B, A, ("or", 4, 3), ("not", 2), ("not", 5), ("and", 6, 7))),
                         (A, B, ("or", 0, 1), ("not", 2), ("and", 3, 3)))
        # Turned about, an or isn't the same.
        self.assertEqual(tidied((A, B, ("or", 0, 1), ("or", 1, 0), ("and", 2, 3))),
                         (A, B, ("or", 0, 1), ("or", 1, 0), ("and", 2, 3)))

    def test_in_the_order_of_the_point(self):
        self.assertEqual(tidied((A, B, ("behind", 1, 0))), (B, A, ("behind", 0, 1)))
        self.assertEqual(tidied((A, B, ("not", 0), ("not", 1), ("or", 3, 2))),
                         (B, ("not", 0), A, ("not", 2), ("or", 1, 3)))
        self.assertEqual(tidied((A, B, C, ("and", 0, 1), ("and", 2, 3), ("or", 3, 4))),
                         (A, B, ("and", 0, 1), C, ("and", 3, 2), ("or", 2, 4)))

    def test_any_expressions(self):
        for letters, expression in made_expressions(83, 300, 12):
            told = tidied(expression)
            self.assertEqual(told, rows_of_tree(tree_of(expression)), expression)
            self.assertEqual(tidied(told), told)
            self.assertIs(look_expression(letters, told), True)
            self.assertEqual({type(row) for row in told}, {tuple})
            self.assertEqual(texts_by_row(letters, told, 4)[-1], texts_by_row(letters, expression, 4)[-1])

    def test_sixty_rows_without_measure(self):
        for word in JOINS:
            rows = doubled(A, word, 60)
            self.assertEqual(tidied(rows), rows)
        twice = (A, A) + tuple(row for at in range(0, 56, 2) for row in (("or", at, at + 1), ("or", at + 1, at)))
        self.assertEqual(tidied(twice), doubled(A, "or", 29))
        chance = random.Random(84)
        for _ in range(50):
            told = tidied(made_expression(chance, "ab", 60))
            self.assertEqual(tidied(told), told)
            self.assertEqual(len(set(told)), len(told))

    def test_thousands_deep(self):
        deep = (A,) + tuple(("not", at) for at in range(3000))
        self.assertEqual(tidied(deep), deep)
        self.assertEqual(tidied(deep + deep[:1] + (("or", 3001, 3000),)),
                         deep + (("or", 0, 3000),))
        line = (A, B) + tuple(("behind", at, 0) for at in range(1, 3000))
        self.assertEqual(tidied(line), (B, A, ("behind", 0, 1)) + tuple(("behind", at, 1) for at in range(2, 3000)))


class StandNumber(unittest.TestCase):
    def test_each_kind_of_row(self):
        for expression, number in (
                ((NOTHING,), 0), ((BLANK,), 1), ((A,), 2), ((A, ("not", 0)), 2), ((NOTHING, ("not", 0)), 0),
                ((A, BLANK, ("or", 0, 1)), 2), ((A, BLANK, ("or", 1, 0)), 2), ((A, BLANK, ("and", 0, 1)), 2),
                ((BLANK, NOTHING, ("and", 0, 1)), 1), ((BLANK, NOTHING, ("or", 1, 0)), 1),
                ((A, BLANK, ("behind", 0, 1)), 4), ((A, ("behind", 0, 0)), 5), ((NOTHING, ("behind", 0, 0)), 1),
                (HAS_AB, 7), (NO_B, 4), ((A, NOTHING), 0), (doubled(A, "behind", 3), 11)):
            self.assertEqual(stand_number(expression), number, expression)

    def test_great_ones(self):
        self.assertEqual(stand_number(doubled(A, "behind", 60)), 3 * 2 ** 59 - 1)
        self.assertEqual(stand_number(doubled(A, "or", 60)), 2)
        self.assertEqual(stand_number(doubled(BLANK, "behind", 500)), 2 ** 500 - 1)
        self.assertEqual(stand_number((A,) + tuple(("not", at) for at in range(3000))), 2)

    def test_from_it_on_one_time_more_tells_the_same(self):
        for letters, expression in made_expressions(85, 60, 6, ("a", "ba")):
            number = stand_number(expression)
            if number > 4:
                continue
            for x, v, y in (("", "a", ""), ("a", "a", ""), ("", letters, "a"), (letters[0], letters[-1], letters)):
                self.assertEqual(tells(letters, expression, x + v * number + y),
                                 tells(letters, expression, x + v * (number + 1) + y), expression)


class NewAndTheSame(unittest.TestCase):
    def test_what_is_told_is_new_and_stays(self):
        for expression in (HAS_AB, NO_B, doubled(B, "behind", 60), (A, A, B, ("or", 1, 0))):
            for function, things in ((look_expression, ("ab", expression)), (tells, ("ab", expression, "abba")),
                                     (tidied, (expression,)), (stand_number, (expression,))):
                told = holds_to_point_2(self, function, *things)
                refused(self, BadRow, look_expression, "ab", expression + ((),))
                tidied(NO_B)
                self.assertEqual(function(*things), told)
        self.assertIsNot(tidied(HAS_AB), HAS_AB)


if __name__ == "__main__":
    unittest.main()
