"""Points 17 and 18: expressions as texts."""

import itertools
import random
import unittest

from calmword.errors import BadText, TooLong
from calmword.expressions import look_expression, tidied
from calmword.expressiontexts import read_expression, show_expression
from samples import holds_to_point_2, refused
from tellings import A, B, BLANK, C, HAS_AB, JOINS, NOTHING, doubled, made_expressions, rows_of_tree, tree_of

D = ("letter", "d")

# What is written for an expression, with brackets just where they must stand.
WRITTEN = (
    ((A,), "a"), ((("letter", "z"),), "z"), ((BLANK,), "."), ((NOTHING,), "0"), ((A, ("not", 0)), "-a"),
    ((A, ("not", 0), ("not", 1)), "--a"), ((A, B, ("behind", 0, 1)), "ab"), ((A, B, ("and", 0, 1)), "a&b"),
    ((A, B, ("or", 0, 1)), "a|b"), ((BLANK, ("not", 0)), "-."), ((NOTHING, ("not", 0)), "-0"),
    ((A, ("not", 0), B, ("behind", 1, 2)), "-ab"), ((A, B, ("behind", 0, 1), ("not", 2)), "-(ab)"),
    ((A, B, ("and", 0, 1), ("not", 2)), "-(a&b)"), ((A, B, ("or", 0, 1), ("not", 2)), "-(a|b)"),
    ((A, B, ("not", 1), ("behind", 0, 2)), "a-b"), ((A, B, ("not", 1), ("and", 0, 2)), "a&-b"),
    ((A, ("not", 0), B, ("or", 1, 2)), "-a|b"), ((A, B, ("not", 1), ("or", 0, 2)), "a|-b"),
    ((A, ("not", 0), B, ("and", 1, 2)), "-a&b"),
    ((A, B, ("behind", 0, 1), C, ("behind", 2, 3)), "abc"), ((A, B, C, ("behind", 1, 2), ("behind", 0, 3)), "a(bc)"),
    ((A, B, ("and", 0, 1), C, ("and", 2, 3)), "a&b&c"), ((A, B, C, ("and", 1, 2), ("and", 0, 3)), "a&(b&c)"),
    ((A, B, ("or", 0, 1), C, ("or", 2, 3)), "a|b|c"), ((A, B, C, ("or", 1, 2), ("or", 0, 3)), "a|(b|c)"),
    ((A, B, ("or", 0, 1), C, ("and", 2, 3)), "(a|b)&c"), ((A, B, C, ("or", 1, 2), ("and", 0, 3)), "a&(b|c)"),
    ((A, B, ("and", 0, 1), C, ("or", 2, 3)), "a&b|c"), ((A, B, C, ("and", 1, 2), ("or", 0, 3)), "a|b&c"),
    ((A, B, ("or", 0, 1), C, ("behind", 2, 3)), "(a|b)c"), ((A, B, C, ("or", 1, 2), ("behind", 0, 3)), "a(b|c)"),
    ((A, B, ("and", 0, 1), C, ("behind", 2, 3)), "(a&b)c"), ((A, B, C, ("and", 1, 2), ("behind", 0, 3)), "a(b&c)"),
    ((A, B, ("behind", 0, 1), C, ("and", 2, 3)), "ab&c"), ((A, B, C, ("behind", 1, 2), ("and", 0, 3)), "a&bc"),
    ((A, B, ("behind", 0, 1), C, ("or", 2, 3)), "ab|c"), ((A, B, C, ("behind", 1, 2), ("or", 0, 3)), "a|bc"),
    ((A, B, ("behind", 0, 1), ("not", 2), C, ("behind", 3, 4)), "-(ab)c"), (HAS_AB, "-0(ab)-0"),
    ((A, B, ("behind", 0, 1), C, D, ("behind", 3, 4), ("behind", 2, 5)), "ab(cd)"),
)


def read_tree(text):
    """What is put together, read by going down from what binds least, or None; without any look at the program."""
    place = 0

    def sign():
        return text[place:place + 1]

    def chain_of(word, operator, part):
        nonlocal place
        left = part()
        while left is not None and sign() and (sign() == operator if operator else sign() not in "&|)"):
            place += len(operator)
            right = part()
            left = None if right is None else (word, left, right)
        return left

    def bound():
        nonlocal place
        here = sign()
        place += 1
        if here == "-":
            part = bound()
            return None if part is None else ("not", part)
        if here == "(":
            part = whole()
            place += 1
            return part if text[place - 1:place] == ")" else None
        if here == ".":
            return ("blank",)
        if here == "0":
            return ("nothing",)
        return ("letter", here) if here in tuple("abcdefghijklmnopqrstuvwxyz") else None

    def whole():
        return chain_of("or", "|", lambda: chain_of("and", "&", lambda: chain_of("behind", "", bound)))

    tree = whole()
    return tree if place == len(text) else None


def fails_at(text):
    """How long the longest beginning is that can go on: one letter and brackets enough end any such."""
    tails = ["a" * letters + ")" * closing for letters in range(2) for closing in range(len(text) + 1)]
    return max(length for length in range(len(text) + 1)
               if any(read_tree(text[:length] + tail) is not None for tail in tails))


def pairs_of_brackets(text):
    opened = []
    for place, sign in enumerate(text):
        if sign == "(":
            opened.append(place)
        elif sign == ")":
            yield opened.pop(), place


class Show(unittest.TestCase):
    def test_each_kind_of_row_and_brackets_where_they_must_stand(self):
        for expression, text in WRITTEN:
            self.assertEqual(show_expression(expression), text)

    def test_the_last_row_as_it_is_put_together(self):
        self.assertEqual(show_expression((A, B, ("or", 0, 1), B)), "b")
        self.assertEqual(show_expression((A, ("behind", 0, 0), ("behind", 1, 1), ("not", 2))), "-(aa(aa))")
        self.assertEqual(show_expression((A, A, B, ("or", 1, 0))), "a|a")

    def test_the_same_is_read_and_no_brackets_more(self):
        pairs = 0
        for _, expression in made_expressions(100, 500, 12):
            text = show_expression(expression)
            self.assertEqual(read_tree(text), tree_of(expression))
            for first, last in pairs_of_brackets(text):
                pairs += 1
                without = text[:first] + text[first + 1:last] + text[last + 1:]
                self.assertNotEqual(read_tree(without), tree_of(expression), text)
        self.assertGreater(pairs, 200)

    def test_too_long_from_more_than_100000_signs_on(self):
        # Each not is one sign more.
        nots = (A,) + tuple(("not", at) for at in range(99999))
        self.assertEqual(show_expression(nots), "-" * 99999 + "a")
        refused(self, TooLong, show_expression, nots + (("not", 99999),))
        # Rows that aren't needed don't count.
        self.assertEqual(show_expression(nots + (("not", 99999), B)), "b")

    def test_brackets_count(self):
        lengths = [len(show_expression(doubled(A, "behind", rows))) for rows in range(1, 17)]
        self.assertEqual(lengths[:4], [1, 2, 6, 14])
        self.assertEqual(lengths[14:], [2 ** 15 - 2, 2 ** 16 - 2])
        refused(self, TooLong, show_expression, doubled(A, "behind", 17))
        # 65,534 signs, an or, then 1,697 nots, brackets and 32,766 signs within them.
        rows = doubled(A, "behind", 16) + (("not", 14),) + tuple(("not", at) for at in range(16, 1712))
        self.assertEqual(len(show_expression(rows + (("or", 15, 1712),))), 100000)
        refused(self, TooLong, show_expression, rows + (("not", 1712), ("or", 15, 1713)))
        refused(self, TooLong, show_expression, rows + (("or", 15, 1712), ("not", 1713)))

    def test_without_measure(self):
        for word in JOINS:
            refused(self, TooLong, show_expression, doubled(A, word, 60))
            refused(self, TooLong, show_expression, doubled(A, word, 3000))


class Read(unittest.TestCase):
    def test_what_is_written_is_read(self):
        for expression, text in WRITTEN:
            self.assertEqual(read_expression(text), tidied(expression))
        for letters, expression in made_expressions(101, 300, 12):
            told = read_expression(show_expression(expression))
            self.assertEqual(told, tidied(expression))
            self.assertIs(look_expression(letters, told), True)

    def test_none_twice_and_in_order(self):
        self.assertEqual(read_expression("ba|ba"), (B, A, ("behind", 0, 1), ("or", 2, 2)))
        self.assertEqual(read_expression("b|(a|b)&-a"), (B, A, ("or", 1, 0), ("not", 1), ("and", 2, 3), ("or", 0, 4)))

    def test_more_brackets(self):
        for text, plain in (("(a)", "a"), ("((a))", "a"), ("(ab)c", "abc"), ("(a&b)|c", "a&b|c"), ("-(a)", "-a"),
                            ("(-a)b", "-ab"), ("-(-a)", "--a"), ("(.)", "."), ("((0))(a)", "0a"), ("a|(b)", "a|b"),
                            ("(a(bc))", "a(bc)"), ("(a|b)", "a|b"), ("((a)|(b))", "a|b")):
            self.assertEqual(read_expression(text), read_expression(plain))
            self.assertEqual(show_expression(read_expression(text)), plain)

    def test_any_text_of_few_signs(self):
        good = 0
        for length in range(6):
            for signs in itertools.product("a0-(|)" if length == 5 else "az.0-(&|) +", repeat=length):
                text = "".join(signs)
                tree = read_tree(text)
                if tree is not None:
                    good += 1
                    self.assertEqual(read_expression(text), rows_of_tree(tree), text)
                else:
                    with self.assertRaises(BadText) as caught:
                        read_expression(text)
                    self.assertEqual(caught.exception.at, fails_at(text), text)
        self.assertGreater(good, 1000)

    def test_texts_that_are_none(self):
        for text, at in (
                ("", 0), ("(", 1), ("()", 1), (")", 0), ("a)", 1), ("(a))", 3), ("((a)", 4), ("a(b", 3), ("-", 1),
                ("--", 2), ("a|", 2), ("a&", 2), ("a-", 2), ("a(", 2), ("|a", 0), ("&a", 0), ("a||b", 2), ("a|&b", 2),
                ("a&&b", 2), ("-|a", 1), ("(|a)", 1), ("(a|)", 3), ("a b", 1), (" a", 0), ("a ", 1), ("a\n", 1),
                ("\n", 0), ("\na", 0), ("A", 0), ("aB", 1), ("1", 0), ("a*", 1), ("a+b", 1), ("a,b", 1),
                ("a\nb", 1), ("[a]", 0), ("a~", 1), ("a{", 1), ("a`", 1), ("{", 0), ("`", 0), ("a/b", 1), ("a1", 1),
                ("((((a))))))", 9), ("a|b|c|", 6), ("ab" * 90 + ")", 180)):
            self.assertEqual(refused(self, BadText, read_expression, text).at, at, text)

    def test_each_sign_from_the_blank_on(self):
        for number in [10] + list(range(32, 127)):
            sign = chr(number)
            if sign in "abcdefghijklmnopqrstuvwxyz":
                self.assertEqual(read_expression(sign), (("letter", sign),))
            elif sign not in ".0-(":
                self.assertEqual(refused(self, BadText, read_expression, sign).at, 0)
            if sign not in "abcdefghijklmnopqrstuvwxyz.0-(&|":
                self.assertEqual(refused(self, BadText, read_expression, "a" + sign + "a").at, 1)

    def test_sixty_within_one_another(self):
        self.assertEqual(read_expression("(" * 60 + "a" + ")" * 60), (A,))
        self.assertEqual(read_expression("-" * 60 + "a"), (A,) + tuple(("not", at) for at in range(60)))
        self.assertEqual(read_expression("-(" * 60 + "ab" + ")" * 60),
                         (A, B, ("behind", 0, 1)) + tuple(("not", at) for at in range(2, 62)))
        self.assertEqual(refused(self, BadText, read_expression, "(" * 60 + "a" + ")" * 61).at, 121)
        self.assertEqual(refused(self, BadText, read_expression, "(" * 60 + "a" + ")" * 59).at, 120)
        self.assertEqual(refused(self, BadText, read_expression, "-" * 60).at, 60)

    def test_hundreds_within_one_another(self):
        nested = (A,) + tuple(("not", at) if at % 2 else ("behind", 0, at) for at in range(900))
        self.assertEqual(read_expression(show_expression(nested)), tidied(nested))
        for word in JOINS:
            left = (A, B) + tuple((word, at, 0) for at in range(1, 5000))
            right = (A, B) + tuple((word, 0, at) for at in range(1, 5000))
            for rows in (left, right):
                self.assertEqual(read_expression(show_expression(rows)), tidied(rows))

    def test_100000_signs(self):
        for text in ("-" * 99999 + "a", "ab" * 50000, "(" * 49999 + "a." + ")" * 49999):
            self.assertEqual(len(show_expression(read_expression(text))), 2 if "(" in text else 100000)


class NewAndTheSame(unittest.TestCase):
    def test_what_is_told_is_new_and_stays(self):
        chance = random.Random(102)
        for expression, text in chance.sample(WRITTEN, 12):
            told = holds_to_point_2(self, show_expression, expression)
            read = holds_to_point_2(self, read_expression, text)
            refused(self, BadText, read_expression, text + ")")
            refused(self, TooLong, show_expression, doubled(A, "and", 60))
            self.assertEqual((show_expression(expression), read_expression(text)), (told, read))


if __name__ == "__main__":
    unittest.main()
