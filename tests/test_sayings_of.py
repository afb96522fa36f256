"""Point 25: sayings of expressions."""

import itertools
import random
import unittest

from calmword.expressions import tells
from calmword.holding import holds
from calmword.made import machine_of
from calmword.saymade import saying_machine
from calmword.sayings import free_names, look_saying
from calmword.sayings_of import saying_of
from calmword.sayingtexts import read_saying, show_saying
from samples import holds_to_point_2, texts_to
from saysamples import holds_plainly
from tellings import A, ALL, B, BEGINS_A, BLANK, C, HAS_AB, JOINS, NO_B, NOTHING, doubled, made_expression
from tellings import made_expressions, texts_by_row

# An expression for each kind of row, and each with and without the text without signs.
KINDS = (
    (NOTHING,), (BLANK,), (A,), (NOTHING, ("not", 0)), (BLANK, ("not", 0)), (A, ("not", 0)), (A, B, ("or", 0, 1)),
    (A, BLANK, ("or", 0, 1)), (A, B, ("and", 0, 1)), (A, ("not", 0), BLANK, ("and", 1, 2)), (A, ("and", 0, 0)),
    (A, B, ("behind", 0, 1)), (A, ("behind", 0, 0)), (A, BLANK, ("behind", 0, 1)), (A, BLANK, ("behind", 1, 0)),
    (BLANK, ("behind", 0, 0)), (A, NOTHING, ("behind", 0, 1)), (A, NOTHING, ("behind", 1, 0)), ALL, BEGINS_A, HAS_AB,
    NO_B, (A, ("not", 0), ("behind", 1, 1)), (A, ("not", 0), B, ("behind", 1, 2)), (B, A, ("not", 1), ("behind", 0, 2)),
    (A, BLANK, ("or", 0, 1), ("behind", 2, 2)), (A, ("behind", 0, 0), ("behind", 1, 1), ("behind", 2, 2)))


def expressions_of(letters, rows):
    """All expressions of so many rows."""
    choices = []
    for at in range(rows):
        parts = list(itertools.product(range(at), repeat=2))
        choices.append([NOTHING, BLANK] + [("letter", letter) for letter in letters]
                       + [("not", part) for part in range(at)] + [(word,) + two for word in JOINS for two in parts])
    return itertools.product(*choices)


class SayingOf(unittest.TestCase):
    def holds_to_the_point(self, letters, expression, most_signs):
        """A closed saying of just the expression's texts with at most so many signs, of the form that is asked for."""
        told = saying_of(letters, expression)
        self.assertIs(look_saying(letters, told), True)
        self.assertEqual(free_names(told), ())
        names = {thing for row in told for thing in row[1:3] if row[0] in ("is", "ahead", "some", "each")
                 and isinstance(thing, str) and not (row[0] == "is" and thing == row[2])}
        self.assertLessEqual(len(names), 3)
        self.assertLessEqual({row[2] for row in told if row[0] == "is"}, set(letters))
        due = texts_by_row(letters, expression, most_signs)[-1]
        for text in texts_to(letters, most_signs):
            self.assertIs(holds(told, text, {}), text in due, (letters, expression, text))
        return told

    def test_each_kind_of_row(self):
        for expression in KINDS:
            for letters in ("ab", "ba", "cab"):
                told = self.holds_to_the_point(letters, expression, 4 if len(letters) == 2 else 3)
                self.assertEqual(saying_machine(letters, told), machine_of(letters, expression))
        for expression in KINDS[:19]:
            told = saying_of("ab", expression)
            for text in texts_to("ab", 3):
                self.assertIs(holds_plainly(told, text, {}), tells("ab", expression, text), (expression, text))

    def test_the_text_without_signs(self):
        for expression in KINDS:
            self.assertIs(holds(saying_of("ab", expression), "", {}), tells("ab", expression, ""))

    def test_one_and_four_letters(self):
        for expression in KINDS:
            if B not in expression:
                self.holds_to_the_point("a", expression, 7)
            self.holds_to_the_point("dbca", expression + (("letter", "d"), ("or", len(expression) - 1,
                                                                           len(expression))), 3)

    def test_expressions_of_up_to_twenty_rows(self):
        for letters, expression in made_expressions(160, 250, 20):
            self.holds_to_the_point(letters, expression, 4 if len(letters) < 3 else 3)

    def test_long_texts(self):
        chance = random.Random(161)
        for letters, expression in made_expressions(162, 60, 20):
            told = saying_of(letters, expression)
            for _ in range(10):
                text = "".join(chance.choice(letters) for _ in range(chance.randint(5, 10)))
                self.assertIs(holds(told, text, {}), tells(letters, expression, text))

    def test_all_of_at_most_three_rows_and_their_machines(self):
        for rows in (1, 2, 3):
            for expression in expressions_of("ba", rows):
                told = saying_of("ba", expression)
                self.assertEqual(saying_machine("ba", told, 400), machine_of("ba", expression), expression)

    def test_machines_of_four_rows(self):
        chance = random.Random(163)
        # Rows that rest on the one ahead, so that none is idle.
        for letters in ("a", "ba", "cab", "dbca"):
            for _ in range(400):
                expression = made_expression(chance, letters, 3)
                word = chance.choice(JOINS + ("not",))
                last = (word, 2) if word == "not" else (word,) + chance.choice(((2, 2), (0, 2), (1, 2), (2, 0), (2, 1)))
                told = saying_of(letters, expression + (last,))
                self.assertIs(look_saying(letters, told), True)
                self.assertEqual(saying_machine(letters, told, 400), machine_of(letters, expression + (last,)))

    def test_chains_of_four_rows(self):
        for words in itertools.product(JOINS + ("not",), repeat=3):
            for leaf in (A, C, BLANK, NOTHING):
                rows = (leaf,)
                for at, word in enumerate(words):
                    rows += ((word, at) if word == "not" else (word, at, at),)
                self.assertEqual(saying_machine("cab", saying_of("cab", rows), 400), machine_of("cab", rows))

    def test_rows_that_are_not_needed(self):
        told = saying_of("ab", HAS_AB + NO_B[:1] + (A,))
        self.assertEqual(told, saying_of("ab", (A,)))

    def test_sixty_rows_without_measure(self):
        for word in JOINS:
            rows = doubled(A, word, 60)
            told = saying_of("ab", rows)
            for text in texts_to("ab", 3):
                self.assertIs(holds(told, text, {}), word != "behind" and text == "a")
        rows = doubled(B, "behind", 59) + (("not", 58),)
        self.assertTrue(all(holds(saying_of("ab", rows), text, {}) for text in texts_to("ab", 3)))

    def test_hundreds_deep(self):
        rows = (A, BLANK, ("or", 0, 1)) + tuple(("not", at) if at % 3 else ("behind", 2, at) for at in range(2, 500))
        told = saying_of("ab", rows)
        self.assertIs(look_saying("ab", told), True)
        for text in texts_to("ab", 3):
            self.assertIs(holds(told, text, {}), tells("ab", rows, text))

    def test_what_is_told_may_be_handed_on(self):
        for letters, expression in made_expressions(164, 30, 8):
            told = saying_of(letters, expression)
            read = read_saying(show_saying(told))
            for text in texts_to(letters, 3):
                self.assertIs(holds(read, text, {}), tells(letters, expression, text))

    def test_what_is_told_is_new_and_stays(self):
        for expression in KINDS[::3]:
            told = holds_to_point_2(self, saying_of, "ab", expression)
            saying_of("ab", HAS_AB)
            saying_of("a", (A, ("not", 0)))
            self.assertEqual(saying_of("ab", expression), told)


if __name__ == "__main__":
    unittest.main()
