"""The checker: whether a paper tells the least costs, whoever wrote it."""

from twomarks.rules import costs_by, end_costs, weighed
from twomarks.shares import is_share, share
from twomarks.shops import DEPTH, TOP, is_level, order_cost, stocks


def is_entry(shop, stock, thing):
    """Whether whatever thing is a tuple (cost, level) for the stock."""
    if not isinstance(thing, tuple) or len(thing) != 2:
        return False
    cost, level = thing
    return is_share(cost) and is_level(shop, stock, level)


def is_paper_day(shop, thing):
    """Whether whatever thing is a tuple with an entry for each stock."""
    own = stocks(shop)
    if not isinstance(thing, tuple) or len(thing) != len(own):
        return False
    return all([is_entry(shop, stock, entry) for stock, entry in zip(own, thing)])


def is_paper(shop, falls, thing):
    """Whether whatever thing has the form of a paper for the shop and the falls."""
    if not isinstance(thing, tuple) or len(thing) != len(falls):
        return False
    return all([is_paper_day(shop, entries) for entries in thing])


def none_less(shop, day, costs, ahead, scale):
    """Whether no level has a lesser cost than its stock has in costs."""
    own_scale = scale * sum(day)
    behind = [weighed(shop, day, level, ahead, scale) for level in stocks(shop)]
    for stock, cost in zip(stocks(shop), costs):
        for level in range(stock, shop[TOP] + 1):
            if own_scale * order_cost(shop, stock, level) + behind[level + shop[DEPTH]] < cost:
                return False
    return True


def lets(shop, falls, thing):
    """Whether whatever thing is a paper for the shop and the falls that is let by."""
    if not is_paper(shop, falls, thing):
        return False
    ahead = end_costs(shop)
    scale = 1
    for t in reversed(range(len(falls))):
        costs = costs_by(shop, falls[t], [level for cost, level in thing[t]], ahead, scale)
        own_scale = scale * sum(falls[t])
        # Once these are alike the reckoned costs stand for the paper's own on the day ahead of this one.
        if [share(cost, own_scale) for cost in costs] != [cost for cost, level in thing[t]]:
            return False
        if not none_less(shop, falls[t], costs, ahead, scale):
            return False
        ahead = costs
        scale = own_scale
    return True
