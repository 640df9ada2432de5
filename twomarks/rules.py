"""Rules of ordering: what they are, and what they cost."""

from twomarks.shares import share
from twomarks.shops import DEPTH, day_cost, end_cost, is_level, next_stock, order_cost, stocks

# Within the program costs are reckoned in whole numbers: all costs of a day are times one and the
# same number, its scale, and a share is made only of what is told.


def is_levels(shop, thing):
    """Whether whatever thing is a tuple with a level for each stock."""
    own = stocks(shop)
    if not isinstance(thing, tuple) or len(thing) != len(own):
        return False
    return all([is_level(shop, stock, level) for stock, level in zip(own, thing)])


def is_rule(shop, falls, thing):
    """Whether whatever thing is a rule of the shop for the falls."""
    if not isinstance(thing, tuple) or len(thing) != len(falls):
        return False
    return all([is_levels(shop, levels) for levels in thing])


def end_costs(shop):
    """What the end costs, for each stock; their scale is 1."""
    return [end_cost(shop, stock) for stock in stocks(shop)]


def weighed(shop, day, level, ahead, scale):
    """What the level costs from the fall on, each fall times its weight.

    ahead has for each stock what it costs from the next morning on, times scale; what is told is
    times scale and the sum of the day's weights.
    """
    total = 0
    for fall, weight in enumerate(day):
        following = ahead[next_stock(shop, level, fall) + shop[DEPTH]]
        total += weight * (scale * day_cost(shop, level, fall) + following)
    return total


def costs_by(shop, day, levels, ahead, scale):
    """What it costs from the day on by the levels, for each stock, scaled as weighed tells it."""
    own_scale = scale * sum(day)
    costs = []
    for stock, level in zip(stocks(shop), levels):
        costs.append(own_scale * order_cost(shop, stock, level) + weighed(shop, day, level, ahead, scale))
    return costs


def cost_of(shop, falls, rule, stock):
    """What the rule costs from the stock, the end with it."""
    ahead = end_costs(shop)
    scale = 1
    for t in reversed(range(len(falls))):
        ahead = costs_by(shop, falls[t], rule[t], ahead, scale)
        scale *= sum(falls[t])
    return share(ahead[stock + shop[DEPTH]], scale)
