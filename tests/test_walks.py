"""Rooms that come up, numbered, up to a bound."""

import unittest

from calmword.errors import TooMany
from calmword.walks import come_up


def step(room, sign):
    return (room * 2 + sign) % 7


class ComeUp(unittest.TestCase):
    def test_in_the_order_of_rooms_and_signs(self):
        rooms, moves = come_up(1, 2, step)
        self.assertEqual(rooms, [1, 2, 3, 4, 5, 6, 0])
        self.assertEqual([tuple(rooms[target] for target in row) for row in moves],
                         [tuple(step(room, sign) for sign in range(2)) for room in rooms])

    def test_the_bound(self):
        self.assertEqual(come_up(1, 2, step, 7), come_up(1, 2, step))
        for most in range(1, 7):
            with self.assertRaises(TooMany) as caught:
                come_up(1, 2, step, most, 5)
            self.assertEqual(caught.exception.at, 5)


if __name__ == "__main__":
    unittest.main()
