"""Machines put together: no, both, either."""

from calmword.least import least
from calmword.pairs import look_same_letters, walked_pairs


# What has other answers stays least: no two rooms come to be alike by it.
def no_of(machine):
    lean = least(machine)
    return (lean[0], lean[1], tuple([not answer for answer in lean[2]]))


def both_of(one, other, most=400):
    return put_together(one, other, most, lambda left, right: left and right)


def either_of(one, other, most=400):
    return put_together(one, other, most, lambda left, right: left or right)


def put_together(one, other, most, answer):
    look_same_letters(one, other)
    left = least(one)
    right = least(other)
    came = walked_pairs(left, right, most)
    yes = [answer(left[2][pair[0]], right[2][pair[1]]) for pair in came[0]]
    return least((left[0], came[1], tuple(yes)))
