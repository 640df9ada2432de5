"""For ever: the least mean cost of shops with one and the same day's falls for all days."""

from twomarks.errors import NoMean
from twomarks.marks import marks_by
from twomarks.rules import weighed
from twomarks.shares import share
from twomarks.shops import DEPTH, TOP, greatest_seen, next_stock, order_cost, stocks
from twomarks.table import cheapest, level_sums


def ask_lasting(shop, one):
    """NoMean where the shop isn't lasting with the day's falls."""
    if greatest_seen(one) < shop[TOP] + shop[DEPTH]:
        raise NoMean("the greatest seen fall is less than top and depth together")


def equation(shop, one, stock, level):
    """The equation of the stock's mean and worth by the level, times the sum of the weights.

    The worths' numbers stand from the least stock on, the cost last. The least stock's worth is 0, so the
    mean has its place.
    """
    row = [0] * (shop[TOP] + shop[DEPTH] + 1)
    row[stock + shop[DEPTH]] += sum(one)
    for fall, weight in enumerate(one):
        row[next_stock(shop, level, fall) + shop[DEPTH]] -= weight
    row[0] = sum(one)
    nothing_ahead = [0] * len(row)
    cost = sum(one) * order_cost(shop, stock, level) + weighed(shop, one, level, nothing_ahead, 1)
    return row + [cost]


def solved(rows):
    """What solves the equations, times a scale, and this scale."""
    # Each lead is above 0, since from each level the least stock may come next. Each division by the lead
    # before it leaves nothing over, so all stays whole and short.
    before = 1
    for k in range(len(rows)):
        leading = rows[k]
        lead = leading[k]
        for at in range(len(rows)):
            if at != k:
                many = rows[at][k]
                rows[at] = [(lead * x - many * y) // before for x, y in zip(rows[at], leading)]
        before = lead
    return ([row[-1] for row in rows], before)


def mean_and_worths(shop, one, levels):
    """The mean and the worths of the levels, times a scale, and this scale."""
    found, scale = solved([equation(shop, one, stock, level) for stock, level in zip(stocks(shop), levels)])
    return (found[0], [0] + found[1:], scale)


def best_of_all(shop, one):
    """The mean, the worths, the scale of both, and the levels of a lasting paper."""
    levels = list(stocks(shop))
    # This comes to an end: levels that are cheaper by the worths make the mean, or at the same mean the worths,
    # less, and by the same worths the same levels are taken again.
    while True:
        mean, worths, scale = mean_and_worths(shop, one, levels)
        picks = cheapest(shop, level_sums(shop, one, worths, scale), scale * sum(one))
        better = [level for cost, level in picks]
        if better == levels:
            return (mean, worths, scale, levels)
        levels = better


def lasting(shop, one):
    """A lasting paper; NoMean where the shop isn't lasting."""
    ask_lasting(shop, one)
    mean, worths, scale, levels = best_of_all(shop, one)
    return (share(mean, scale), tuple([share(worth, scale) for worth in worths]), tuple(levels))


def mean_of(shop, one, levels):
    """The mean of the lasting rule; NoMean where the shop isn't lasting."""
    ask_lasting(shop, one)
    mean, worths, scale = mean_and_worths(shop, one, levels)
    return share(mean, scale)


def lasting_marks(shop, one):
    """The marks for ever; NoMean where the shop isn't lasting."""
    ask_lasting(shop, one)
    mean, worths, scale, levels = best_of_all(shop, one)
    by_level = level_sums(shop, one, worths, scale)
    return marks_by(shop, by_level, scale * sum(one), -shop[DEPTH])
