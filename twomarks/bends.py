"""The sums of the levels, the free stocks, and the bend."""

from twomarks.shares import share
from twomarks.shops import DEPTH, START, TOP, greatest_seen
from twomarks.table import day_sums


def sums(shop, falls, t):
    """The sum of each stock as level on day t, as shares."""
    by_level, scale = day_sums(shop, falls, t)
    return tuple([share(cost, scale) for cost in by_level])


def free_from(shop, falls, t):
    """The least free stock on day t; above top where none is free."""
    return sum([greatest_seen(day) for day in falls[t:]]) - shop[DEPTH]


def holds_for(by_level, start, u, v, w):
    """Whether the bend is so for the levels at the places u < v < w."""
    outer = (w - v) * by_level[u] + (v - u) * (by_level[w] + start)
    return outer >= (w - u) * by_level[v]


def bent(shop, falls, t, least):
    """None, or the first (u, v, w) from the stock least on for which the bend isn't."""
    by_level, scale = day_sums(shop, falls, t)
    start = scale * shop[START]
    depth = shop[DEPTH]
    end = shop[TOP] + depth + 1
    for u in range(least + depth, end):
        for v in range(u + 1, end):
            for w in range(v + 1, end):
                if not holds_for(by_level, start, u, v, w):
                    return (u - depth, v - depth, w - depth)
    return None
