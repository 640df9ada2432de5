"""Tables: the least costs, and the levels that come to them."""

from twomarks.rules import end_costs, weighed
from twomarks.shares import share
from twomarks.shops import DEPTH, PIECE, START, TOP, stocks


def level_sums(shop, day, ahead, scale):
    """The sum of each stock as level, scaled as weighed tells it."""
    own_scale = scale * sum(day)
    return [own_scale * shop[PIECE] * level + weighed(shop, day, level, ahead, scale) for level in stocks(shop)]


def cheapest_from(shop, low, by_level, scale):
    """For each stock from low on the least cost, times scale, and the least level that has it.

    by_level has the sums of the levels from low on, times scale.
    """
    picks = []
    # Pairs compare by their sums first, so of levels that cost alike the least one is taken.
    best = (by_level[-1], shop[TOP])
    for stock in reversed(range(low, shop[TOP] + 1)):
        own = (by_level[stock - low], stock)
        cost, level = min(own, (scale * shop[START] + best[0], best[1]))
        picks.append((cost - scale * shop[PIECE] * stock, level))
        best = min(own, best)
    picks.reverse()
    return picks


def cheapest(shop, by_level, scale):
    """For each stock the least cost, times scale, and the least level that has it, by the sums times scale."""
    return cheapest_from(shop, -shop[DEPTH], by_level, scale)


def least(shop, falls):
    """The table of the shop and the falls."""
    days = []
    ahead = end_costs(shop)
    scale = 1
    for day in reversed(falls):
        by_level = level_sums(shop, day, ahead, scale)
        scale *= sum(day)
        picks = cheapest(shop, by_level, scale)
        days.append(tuple([(share(cost, scale), level) for cost, level in picks]))
        ahead = [cost for cost, level in picks]
    days.reverse()
    return tuple(days)


def day_sums(shop, falls, t):
    """The sums of the levels on day t, times a scale, and this scale."""
    ahead = end_costs(shop)
    scale = 1
    for day in reversed(falls[t + 1:]):
        by_level = level_sums(shop, day, ahead, scale)
        scale *= sum(day)
        ahead = [cost for cost, level in cheapest(shop, by_level, scale)]
    return (level_sums(shop, falls[t], ahead, scale), scale * sum(falls[t]))


def rule_in(table):
    """The levels of a table, or of a paper: a rule."""
    return tuple([tuple([level for cost, level in day]) for day in table])
