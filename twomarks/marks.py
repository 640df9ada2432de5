"""Two marks: below the lesser one order up to the greater one."""

from twomarks.shops import DEPTH, START, TOP, stocks
from twomarks.table import cheapest, day_sums


def is_cheapest(shop, by_level, scale, stock, level):
    """Whether the level, above the stock, is among the cheapest from it, by the sums of the levels times scale."""
    at = stock + shop[DEPTH]
    cost = scale * shop[START] + by_level[level + shop[DEPTH]]
    return cost <= by_level[at] and by_level[level + shop[DEPTH]] == min(by_level[at + 1:])


def marks_by(shop, by_level, scale, least):
    """What the marks are from the stock least on, by the sums of the levels times scale."""
    # The table's levels are the least of the cheapest, so a stock must order where its level is above it.
    picks = cheapest(shop, by_level, scale)
    lesser = shop[TOP]
    while lesser > least and picks[lesser - 1 + shop[DEPTH]][1] == lesser - 1:
        lesser -= 1
    if lesser == least:
        return ("marks", least, least)
    greater = picks[lesser - 1 + shop[DEPTH]][1]
    for stock in reversed(range(least, lesser - 1)):
        if not is_cheapest(shop, by_level, scale, stock, greater):
            return ("none", stock, lesser - 1)
    return ("marks", lesser, greater)


def marks(shop, falls, t, least):
    """The marks on day t, from the stock least on."""
    by_level, scale = day_sums(shop, falls, t)
    return marks_by(shop, by_level, scale, least)


def level_by(pair, stock):
    """The level for the stock by a tuple (lesser, greater)."""
    lesser, greater = pair
    return max(greater, stock) if stock < lesser else stock


def marked(shop, pairs):
    """The rule by marks, a tuple (lesser, greater) for each day."""
    return tuple([tuple([level_by(pair, stock) for stock in stocks(shop)]) for pair in pairs])
