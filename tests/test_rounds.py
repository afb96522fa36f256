"""Point 26: texts told apart, or alike, up to a depth."""

import functools
import itertools
import random
import unittest

from calmword.holding import holds
from calmword.rounds import alike_up_to, saying_apart
from calmword.sayings import depth_of, free_names, look_saying
from calmword.sayingtexts import read_saying, show_saying
from samples import holds_to_point_2, texts_to
from saysamples import holds_plainly, made_sayings, names_by_row


def fit_together(one, other, left, right):
    """Whether the last places chosen in the two stand to all the others, and have letters, alike."""
    if one[left[-1]] != other[right[-1]]:
        return False
    return all((mine < left[-1], mine == left[-1]) == (its < right[-1], its == right[-1])
               for mine, its in zip(left, right))


@functools.lru_cache(maxsize=None)
def keeps_up(one, other, depth, left=(), right=()):
    """Whether for each place chosen in either of two texts, so many times, one can be chosen in the other."""
    if depth == 0:
        return True

    def answered(mine, its, my_places, its_places):
        return all(any(fit_together(mine, its, my_places + (place,), its_places + (answer,)) and keeps_up(
            mine, its, depth - 1, my_places + (place,), its_places + (answer,)) for answer in range(len(its)))
            for place in range(len(mine)))

    return answered(one, other, left, right) and answered(other, one, right, left)


def names_in(saying):
    names = {row[1] for row in saying if row[0] in ("is", "ahead", "some", "each")}
    return names | {row[2] for row in saying if row[0] == "ahead"}


class Apart(unittest.TestCase):
    def holds_to_the_point(self, one, other, depth, plainly=False):
        """None where they are alike, or else a saying by which they part. Tells which of both."""
        alike = keeps_up(one, other, depth)
        self.assertIs(alike_up_to(one, other, depth), alike, (one, other, depth))
        told = saying_apart(one, other, depth)
        if alike:
            self.assertIsNone(told)
            return True
        self.assertIs(look_saying("".join(sorted(set(one + other))), told), True)
        self.assertEqual(free_names(told), ())
        self.assertLessEqual(depth_of(told), depth)
        self.assertLessEqual(len(names_in(told)), depth)
        self.assertLessEqual({row[2] for row in told if row[0] == "is"}, set(one + other))
        check = holds_plainly if plainly else holds
        self.assertIs(check(told, one, {}), True, (one, other, depth, told))
        self.assertIs(check(told, other, {}), False, (one, other, depth, told))
        return False

    def test_all_short_texts(self):
        seen = []
        for one, other in itertools.product(texts_to("ab", 3), repeat=2):
            for depth in range(4):
                seen.append(self.holds_to_the_point(one, other, depth, plainly=True))
        self.assertGreater(seen.count(True), 300)
        self.assertGreater(seen.count(False), 300)

    def test_texts_of_up_to_seven_signs(self):
        chance = random.Random(170)
        for depth in (1, 2, 3):
            seen = []
            for _ in range(60):
                letters = chance.choice(("a", "ab", "ab", "abc", "xqmz"))
                one, other = ["".join(chance.choice(letters) for _ in range(chance.randint(0, 7))) for _ in range(2)]
                for left, right in ((one, other), (other, one), (one, one)):
                    seen.append(self.holds_to_the_point(left, right, depth))
                # Two that are hard to tell apart: a letter turned, or left out.
                place = chance.randrange(len(one) + 1)
                near = one[:place] + chance.choice(("", letters[0])) + one[place + 1:]
                seen.append(self.holds_to_the_point(one, near, depth))
            self.assertGreater(seen.count(False), 50)
            self.assertGreater(seen.count(True), 50)

    def test_seven_unlike_letters(self):
        for depth in (0, 1, 2, 3):
            self.assertEqual(self.holds_to_the_point("abcdefg", "gfedcba", depth), depth < 2)
            self.assertEqual(self.holds_to_the_point("abcdefg", "abcdefz", depth), depth < 1)
            self.assertEqual(self.holds_to_the_point("zzzyyyz", "zzyyyzz", depth), depth < 2)

    def test_depth_0_tells_nothing_apart(self):
        for one, other in itertools.product(["", "a", "b", "abababa", "zzz"], repeat=2):
            self.assertIs(alike_up_to(one, other, 0), True)
            self.assertIsNone(saying_apart(one, other, 0))

    def test_the_same_text_twice(self):
        for text in texts_to("ab", 4) + ["abcabca", "zyxwvut"]:
            for depth in range(4):
                self.assertIs(alike_up_to(text, text, depth), True)
                self.assertIsNone(saying_apart(text, text, depth))

    def test_the_text_without_signs(self):
        for text in ("a", "ba", "aaaaaaa"):
            for depth in (1, 2, 3):
                self.assertIs(self.holds_to_the_point("", text, depth), False)
                self.assertIs(self.holds_to_the_point(text, "", depth), False)

    def test_one_letter_so_many_times(self):
        for depth, least in ((0, 0), (1, 1), (2, 3), (3, 7)):
            for one, other in itertools.product(range(10), repeat=2):
                alike = one == other or min(one, other) >= least
                self.assertIs(alike_up_to("a" * one, "a" * other, depth), alike, (one, other, depth))
                if max(one, other) < 8:
                    self.assertIs(self.holds_to_the_point("a" * one, "a" * other, depth), alike)

    def test_what_is_alike_no_saying_tells_apart(self):
        alike = [(one, other, depth) for one, other in itertools.combinations(texts_to("ab", 5), 2)
                 for depth in (1, 2) if alike_up_to(one, other, depth)]
        self.assertGreater(len(alike), 300)
        closed = [saying for _, saying in made_sayings(171, 500, 14, ("ab",)) if not names_by_row(saying)[-1]]
        for one, other, depth in random.Random(172).sample(alike, 120):
            for saying in closed:
                if depth_of(saying) <= depth:
                    self.assertIs(holds(saying, one, {}), holds(saying, other, {}), (one, other, saying))

    def test_what_is_told_may_be_handed_on(self):
        for one, other in (("aaaaaaa", "aaaaaa"), ("abababa", "ababab"), ("aabbaab", "aabbabb")):
            told = saying_apart(one, other, 3)
            self.assertEqual(read_saying(show_saying(told)), told)

    def test_what_is_told_is_new_and_stays(self):
        for one, other in (("ab", "ba"), ("", "a"), ("abab", "aabb"), ("aaa", "aaaa")):
            for depth in (0, 1, 2, 3):
                told = holds_to_point_2(self, saying_apart, one, other, depth)
                holds_to_point_2(self, alike_up_to, one, other, depth)
                saying_apart(other, one, 3)
                self.assertEqual(saying_apart(one, other, depth), told)


if __name__ == "__main__":
    unittest.main()
