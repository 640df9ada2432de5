"""Goods under way: orders that come some days later."""

from twomarks.bends import free_from
from twomarks.errors import NoStand
from twomarks.shares import share
from twomarks.shops import PIECE, TOP, day_cost, end_cost, greatest_seen
from twomarks.table import cheapest_from

# A counted stock is what lies there and what is under way together. From free stocks nothing is sold never,
# so what lies there some days later is the counted stock less all falls till then, however it is made up.


def ask_free(shop, falls, stock):
    """NoStand where the stock isn't free on day 0."""
    if stock < free_from(shop, falls, 0):
        raise NoStand("the stock isn't free on day 0")


def scale_of(days):
    """The product of the sums of the days' weights."""
    scale = 1
    for day in days:
        scale *= sum(day)
    return scale


def weights_together(days):
    """The weight of each sum of falls, one of each day; of no days that of 0."""
    weights = [1]
    for day in days:
        longer = [0] * (len(weights) + len(day) - 1)
        for fallen, weight in enumerate(weights):
            for fall, own in enumerate(day):
                longer[fallen + fall] += weight * own
        weights = longer
    return weights


def weighed_day(shop, weights, stock):
    """What a day costs where nothing comes to the stock, by the weights of all that falls till its end."""
    return sum([weight * day_cost(shop, stock, fallen) for fallen, weight in enumerate(weights)])


def weighed_end(shop, weights, stock):
    """What the end costs where nothing comes to the stock, by the weights of all that falls ahead of it."""
    return sum([weight * end_cost(shop, stock - fallen) for fallen, weight in enumerate(weights)])


def weighed_ahead(day, ahead, level):
    """What the level costs from the next morning on, by the weights of the day."""
    # Only for falls that are seen is there a counted stock behind them.
    return sum([weight * ahead[level - fall] for fall, weight in enumerate(day) if weight > 0])


def counted_sums(shop, falls, days, ahead, low):
    """The sums of the levels from low on, on the first day of the falls, times the scale of the falls.

    A sum has the piece's price, the day on which the pieces come, and ahead: what each counted stock costs
    from the next morning on, times the scale of the falls behind the first day.
    """
    scale = scale_of(falls)
    later = scale_of(falls[days + 1:])
    weights = weights_together(falls[:days + 1])
    by_level = []
    for level in range(low, shop[TOP] + 1):
        total = scale * shop[PIECE] * level + later * weighed_day(shop, weights, level)
        by_level.append(total + weighed_ahead(falls[0], ahead, level))
    return by_level


def least_counted(falls, t, stock):
    """The least counted stock on day t, from the stock on day 0."""
    return stock - sum([greatest_seen(day) for day in falls[:t]])


def end_ahead(shop, falls, orders, stock):
    """What the end costs for each counted stock behind the order days, times the scale of the falls behind them."""
    weights = weights_together(falls[orders:])
    low = least_counted(falls, orders, stock)
    return {counted: weighed_end(shop, weights, counted) for counted in range(low, shop[TOP] + 1)}


def short_days(shop, falls, days, stock):
    """The days of the short table, and the stock's cost on day 0, times the scale of the falls."""
    orders = len(falls) - days
    ahead = end_ahead(shop, falls, orders, stock)
    told = []
    for t in reversed(range(orders)):
        low = least_counted(falls, t, stock)
        scale = scale_of(falls[t:])
        picks = cheapest_from(shop, low, counted_sums(shop, falls[t:], days, ahead, low), scale)
        told.append(tuple([(share(cost, scale), level) for cost, level in picks]))
        ahead = {low + at: cost for at, (cost, level) in enumerate(picks)}
    told.reverse()
    return (told, ahead[stock])


def least_late(shop, falls, days, stock):
    """The least cost from the stock, where goods come so many days later; NoStand where the stock isn't free."""
    ask_free(shop, falls, stock)
    told, total = short_days(shop, falls, days, stock)
    for t in range(days):
        total += scale_of(falls[t + 1:]) * weighed_day(shop, weights_together(falls[:t + 1]), stock)
    return share(total, scale_of(falls))


def short_table(shop, falls, days, stock):
    """The short table from the stock, where goods come so many days later; NoStand where the stock isn't free."""
    ask_free(shop, falls, stock)
    told, total = short_days(shop, falls, days, stock)
    return tuple(told)
