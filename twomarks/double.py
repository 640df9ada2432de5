"""Two stores with one delivery."""

from twomarks.shares import is_share, share
from twomarks.shops import MOST_WEIGHT, TOP, day_cost, end_cost, is_level, next_stock, order_cost, stocks
from twomarks.whole import is_whole_within

MOST_DOUBLE = 3


def is_line(thing):
    """Whether whatever thing is one to three weights, perhaps all 0."""
    if not isinstance(thing, tuple) or not 1 <= len(thing) <= MOST_DOUBLE:
        return False
    return all([is_whole_within(weight, 0, MOST_WEIGHT) for weight in thing])


def day_scale(day):
    """The sum of all weights of a day of double falls."""
    return sum([sum(line) for line in day])


def is_double_day(thing):
    """Whether whatever thing is a day of double falls."""
    if not isinstance(thing, tuple) or not 1 <= len(thing) <= MOST_DOUBLE:
        return False
    if not all([is_line(line) for line in thing]):
        return False
    return all([len(line) == len(thing[0]) for line in thing]) and day_scale(thing) > 0


def is_double(thing):
    """Whether whatever thing is double falls."""
    if not isinstance(thing, tuple) or not 1 <= len(thing) <= MOST_DOUBLE:
        return False
    return all([is_double_day(day) for day in thing])


def stands(shop):
    """All stands, rising."""
    return [(one, other) for one in stocks(shop) for other in stocks(shop)]


def raises_from(shop, stand):
    """All raises for the stand, rising."""
    one, other = stand
    top = shop[TOP]
    return [(first, second) for first in range(one, top + 1) for second in range(other, top + 1)]


def raise_cost(shop, stand, raised):
    """What it costs to come from the stand to the raise."""
    # One order costs as if all its pieces were for one store.
    return order_cost(shop, sum(stand), sum(raised))


def end_of_both(shop):
    """What the end costs, for each stand."""
    return {(one, other): end_cost(shop, one) + end_cost(shop, other) for one, other in stands(shop)}


def weighed_both(shop, day, raised, ahead, scale):
    """What the raise costs from the falls on, times scale and the day's scale; ahead is times scale."""
    first, second = raised
    total = 0
    for fall, line in enumerate(day):
        for other, weight in enumerate(line):
            cost = day_cost(shop, first, fall) + day_cost(shop, second, other)
            following = ahead[(next_stock(shop, first, fall), next_stock(shop, second, other))]
            total += weight * (scale * cost + following)
    return total


def behind_raises(shop, day, ahead, scale):
    """What each raise costs from the falls on."""
    return {raised: weighed_both(shop, day, raised, ahead, scale) for raised in stands(shop)}


def cheapest_raise(shop, stand, behind, scale):
    """The least cost from the stand, times scale, and the least raise that has it."""
    # Pairs compare by their costs first, then by their raises.
    return min([(scale * raise_cost(shop, stand, raised) + behind[raised], raised)
                for raised in raises_from(shop, stand)])


def least_double(shop, double):
    """The double table of the shop and the double falls."""
    days = []
    ahead = end_of_both(shop)
    scale = 1
    for day in reversed(double):
        behind = behind_raises(shop, day, ahead, scale)
        scale *= day_scale(day)
        picks = [cheapest_raise(shop, stand, behind, scale) for stand in stands(shop)]
        days.append(tuple([(share(cost, scale), raised) for cost, raised in picks]))
        ahead = {stand: cost for stand, (cost, raised) in zip(stands(shop), picks)}
    days.reverse()
    return tuple(days)


def is_raise(shop, stand, thing):
    """Whether whatever thing is a raise for the stand."""
    if not isinstance(thing, tuple) or len(thing) != 2:
        return False
    return all([is_level(shop, stock, level) for stock, level in zip(stand, thing)])


def is_double_entry(shop, stand, thing):
    """Whether whatever thing is a tuple (cost, raise) for the stand."""
    if not isinstance(thing, tuple) or len(thing) != 2:
        return False
    cost, raised = thing
    return is_share(cost) and is_raise(shop, stand, raised)


def is_double_paper_day(shop, thing):
    """Whether whatever thing is a tuple with an entry for each stand."""
    own = stands(shop)
    if not isinstance(thing, tuple) or len(thing) != len(own):
        return False
    return all([is_double_entry(shop, stand, entry) for stand, entry in zip(own, thing)])


def is_double_paper(shop, double, thing):
    """Whether whatever thing has the form of a double paper for the shop and the double falls."""
    if not isinstance(thing, tuple) or len(thing) != len(double):
        return False
    return all([is_double_paper_day(shop, entries) for entries in thing])


def costs_looked_at(shop, entries, behind, scale):
    """The cost, times scale, of each stand in the entries; None where one is not its raise's or not the least."""
    costs = {}
    for stand, (cost, raised) in zip(stands(shop), entries):
        own = scale * raise_cost(shop, stand, raised) + behind[raised]
        if share(own, scale) != cost:
            return None
        if any([scale * raise_cost(shop, stand, other) + behind[other] < own for other in raises_from(shop, stand)]):
            return None
        costs[stand] = own
    return costs


def lets_double(shop, double, thing):
    """Whether whatever thing is a double paper for the shop and the double falls that is let by."""
    if not is_double_paper(shop, double, thing):
        return False
    ahead = end_of_both(shop)
    scale = 1
    for t in reversed(range(len(double))):
        behind = behind_raises(shop, double[t], ahead, scale)
        scale *= day_scale(double[t])
        ahead = costs_looked_at(shop, thing[t], behind, scale)
        if ahead is None:
            return False
    return True
