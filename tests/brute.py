"""Slow and plain reckonings, piece by piece and row by row, which the program's answers are held against."""

from fractions import Fraction
from functools import lru_cache
from itertools import product


class Dice:
    """Numbers that look thrown, and are the same in each run."""

    def __init__(self, seed):
        self.state = seed * 2654435761 + 12345

    def throw(self, low, high):
        """A whole number from low to high."""
        self.state = (self.state * 6364136223846793005 + 1442695040888963407) % 2 ** 64
        return low + (self.state >> 33) % (high - low + 1)

    def pick(self, things):
        return things[self.throw(0, len(things) - 1)]


def thrown_shop(dice, reach, price):
    """A shop whose top and depth are together at most reach, and its prices at most price, many of them 0."""
    both = dice.throw(0, reach)
    top = dice.throw(0, both)
    prices = [dice.pick((0, dice.throw(0, 3), dice.throw(0, price))) for _ in range(7)]
    return (top, both - top) + tuple(prices)


def thrown_day(dice, most):
    """A day of at most so many falls, with weights of 0 among them."""
    day = [dice.pick((0, 1, dice.throw(0, 9), dice.throw(0, 1000))) for _ in range(dice.throw(1, most))]
    if not any(day):
        day[dice.throw(0, len(day) - 1)] = dice.throw(1, 1000)
    return tuple(day)


def thrown_falls(dice, days, most):
    return tuple([thrown_day(dice, most) for _ in range(dice.throw(1, days))])


def thrown_levels(dice, shop):
    return tuple([dice.throw(stock, shop[0]) for stock in all_stocks(shop)])


def thrown_rule(dice, shop, falls):
    return tuple([thrown_levels(dice, shop) for _ in falls])


def all_stocks(shop):
    return list(range(-shop[1], shop[0] + 1))


def all_levels(shop):
    """Each tuple of a level for each stock."""
    return list(product(*[range(stock, shop[0] + 1) for stock in all_stocks(shop)]))


def ordered(shop, stock, level):
    return shop[2] + shop[3] * (level - stock) if level > stock else 0


def fallen(shop, level, fall):
    """The next stock and the day's cost, each wanted piece taken by itself."""
    stock, never = level, 0
    for _ in range(fall):
        if stock == -shop[1]:
            never += 1
        else:
            stock -= 1
    return stock, shop[4] * max(stock, 0) + shop[5] * max(-stock, 0) + shop[6] * never


def ended(shop, stock):
    return shop[8] * max(-stock, 0) - shop[7] * max(stock, 0)


def chances(day):
    return [(fall, Fraction(weight, sum(day))) for fall, weight in enumerate(day) if weight]


def as_share(number):
    number = Fraction(number)
    return (number.numerator, number.denominator)


def as_number(share):
    return Fraction(share[0], share[1])


def cost_by_rows(shop, falls, choose, stock):
    """The sum over all rows of seen falls; choose(t, stock, past) tells the level, past all that was before."""
    total = Fraction(0)
    for row in product(*[chances(day) for day in falls]):
        chance, paid, now, past = Fraction(1), 0, stock, ()
        for t, (fall, likely) in enumerate(row):
            level = choose(t, now, past)
            paid += ordered(shop, now, level)
            past += ((now, level, fall),)
            now, cost = fallen(shop, level, fall)
            paid += cost
            chance *= likely
        total += chance * (paid + ended(shop, now))
    return total


def cost_by_rule(shop, falls, rule, stock):
    return cost_by_rows(shop, falls, lambda t, now, past: rule[t][now + shop[1]], stock)


@lru_cache(maxsize=None)
def behind_level(shop, falls, t, level):
    """What the level costs from the fall of day t on, where the cheapest is done on each later day."""
    total = Fraction(0)
    for fall, likely in chances(falls[t]):
        stock, cost = fallen(shop, level, fall)
        total += likely * (cost + cheapest_cost(shop, falls, t + 1, stock))
    return total


@lru_cache(maxsize=None)
def cheapest_cost(shop, falls, t, stock):
    if t == len(falls):
        return Fraction(ended(shop, stock))
    return min(costs_from(shop, falls, t, stock).values())


def costs_from(shop, falls, t, stock):
    """What each level costs from the stock on day t."""
    return {level: ordered(shop, stock, level) + behind_level(shop, falls, t, level)
            for level in range(stock, shop[0] + 1)}


def cheapest_levels(shop, falls, t, stock):
    costs = costs_from(shop, falls, t, stock)
    return [level for level in costs if costs[level] == min(costs.values())]


def table_by_hand(shop, falls):
    return tuple([tuple([(as_share(cheapest_cost(shop, falls, t, stock)), cheapest_levels(shop, falls, t, stock)[0])
                         for stock in all_stocks(shop)]) for t in range(len(falls))])


def marks_by_hand(levels_from, least, top):
    """Point 16 word by word; levels_from(stock) tells the cheapest levels from the stock."""
    cheapest = {stock: levels_from(stock) for stock in range(least, top + 1)}
    must = [stock for stock in cheapest if stock not in cheapest[stock]]
    lesser = min([stock for stock in cheapest if not [other for other in must if other >= stock]])
    greater = lesser if lesser == least else min(cheapest[lesser - 1])
    wrong = [stock for stock in range(least, lesser) if greater not in cheapest[stock]]
    if not wrong:
        return ("marks", lesser, greater)
    return ("none", max([stock for stock in wrong if stock < max(must)]), max(must))


def free_by_hand(shop, falls, t):
    """The least free stock on day t: no row of seen falls brings it below -depth."""
    return max([sum([fall for fall, likely in row]) for row in product(*[chances(day) for day in falls[t:]])]) - shop[1]


def mean_by_hand(shop, day, levels):
    """The mean of a lasting rule, by how often each stock is come to."""
    stocks = all_stocks(shop)
    # One row for each stock: how often it is come to, less how often it is left, is 0; all together are 1.
    rows = [[Fraction(0)] * (len(stocks) + 1) for _ in stocks]
    costs = []
    for at, (stock, level) in enumerate(zip(stocks, levels)):
        rows[at][at] -= 1
        cost = Fraction(ordered(shop, stock, level))
        for fall, likely in chances(day):
            after, paid = fallen(shop, level, fall)
            rows[after + shop[1]][at] += likely
            cost += likely * paid
        costs.append(cost)
    rows[0] = [Fraction(1)] * (len(stocks) + 1)
    return sum([often * cost for often, cost in zip(solved_by_hand(rows), costs)])


def solved_by_hand(rows):
    rows = [list(row) for row in rows]
    for k in range(len(rows)):
        found = next(at for at in range(k, len(rows)) if rows[at][k])
        rows[k], rows[found] = rows[found], rows[k]
        rows[k] = [number / rows[k][k] for number in rows[k]]
        for at in range(len(rows)):
            if at != k:
                rows[at] = [number - rows[at][k] * other for number, other in zip(rows[at], rows[k])]
    return [row[-1] for row in rows]


def costs_by_worths(shop, day, worths, stock):
    """What each level costs from the stock, the next stock's worth with it."""
    told = {}
    for level in range(stock, shop[0] + 1):
        told[level] = Fraction(ordered(shop, stock, level))
        for fall, likely in chances(day):
            after, paid = fallen(shop, level, fall)
            told[level] += likely * (paid + worths[after + shop[1]])
    return told


def thrown_lasting(dice, reach, price):
    """A shop, and a day whose greatest seen fall is no less than top and depth together."""
    shop = thrown_shop(dice, reach, price)
    day = list(thrown_day(dice, 8)) + [0] * 8
    day = day[:dice.throw(shop[0] + shop[1] + 1, 8)]
    day[dice.throw(shop[0] + shop[1], len(day) - 1)] = dice.throw(1, 1000)
    return shop, tuple(day)
