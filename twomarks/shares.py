"""Shares: tuples (top, bottom) in lowest terms, bottom 1 or more."""

from twomarks.errors import NoShare
from twomarks.whole import is_whole


def common_divisor(one, other):
    """The greatest whole number that divides both; not both may be 0."""
    # A loop, since long numbers need more steps than calls may stand in one another.
    one, other = abs(one), abs(other)
    while other:
        one, other = other, one % other
    return one


def is_share(thing):
    """Whether whatever thing is a share."""
    if not isinstance(thing, tuple) or len(thing) != 2:
        return False
    top, bottom = thing
    if not is_whole(top) or not is_whole(bottom) or bottom < 1:
        return False
    return common_divisor(top, bottom) == 1


def share(top, bottom):
    """The share that top over bottom is; NoShare where bottom is 0."""
    if bottom == 0:
        raise NoShare("the bottom of a share is not 0")
    divisor = common_divisor(top, bottom)
    if bottom < 0:
        divisor = -divisor
    return (top // divisor, bottom // divisor)


def plus(one, other):
    """The sum of two shares."""
    return share(one[0] * other[1] + other[0] * one[1], one[1] * other[1])


def times(one, other):
    """The product of two shares."""
    return share(one[0] * other[0], one[1] * other[1])


def below(one, other):
    """Whether the one share is less than the other."""
    return one[0] * other[1] < other[0] * one[1]
