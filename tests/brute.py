"""Slow and plain reckonings, piece by piece and row by row, which the program's answers are held against."""

from fractions import Fraction
from functools import lru_cache
from itertools import product


class Dice:
    """Numbers that look thrown, and are the same in each run."""

    def __init__(self, seed):
        self.state = seed * 2654435761 + 12345

    def throw(self, low, high):
        """A whole number from low to high."""
        self.state = (self.state * 6364136223846793005 + 1442695040888963407) % 2 ** 64
        return low + (self.state >> 33) % (high - low + 1)

    def pick(self, things):
        return things[self.throw(0, len(things) - 1)]


def thrown_shop(dice, reach, price):
    """A shop whose top and depth are together at most reach, and its prices at most price, many of them 0."""
    both = dice.throw(0, reach)
    top = dice.throw(0, both)
    prices = [dice.pick((0, dice.throw(0, 3), dice.throw(0, price))) for _ in range(7)]
    return (top, both - top) + tuple(prices)


def thrown_day(dice, most):
    """A day of at most so many falls, with weights of 0 among them."""
    day = [dice.pick((0, 1, dice.throw(0, 9), dice.throw(0, 1000))) for _ in range(dice.throw(1, most))]
    if not any(day):
        day[dice.throw(0, len(day) - 1)] = dice.throw(1, 1000)
    return tuple(day)


def thrown_falls(dice, days, most):
    return tuple([thrown_day(dice, most) for _ in range(dice.throw(1, days))])


def thrown_levels(dice, shop):
    return tuple([dice.throw(stock, shop[0]) for stock in all_stocks(shop)])


def thrown_rule(dice, shop, falls):
    return tuple([thrown_levels(dice, shop) for _ in falls])


def all_stocks(shop):
    return list(range(-shop[1], shop[0] + 1))


def all_levels(shop):
    """Each tuple of a level for each stock."""
    return list(product(*[range(stock, shop[0] + 1) for stock in all_stocks(shop)]))


def ordered(shop, stock, level):
    return shop[2] + shop[3] * (level - stock) if level > stock else 0


def fallen(shop, level, fall):
    """The next stock and the day's cost, each wanted piece taken by itself."""
    stock, never = level, 0
    for _ in range(fall):
        if stock == -shop[1]:
            never += 1
        else:
            stock -= 1
    return stock, shop[4] * max(stock, 0) + shop[5] * max(-stock, 0) + shop[6] * never


def ended(shop, stock):
    return shop[8] * max(-stock, 0) - shop[7] * max(stock, 0)


def chances(day):
    return [(fall, Fraction(weight, sum(day))) for fall, weight in enumerate(day) if weight]


def as_share(number):
    number = Fraction(number)
    return (number.numerator, number.denominator)


def as_number(share):
    return Fraction(share[0], share[1])


def cost_by_rows(shop, falls, choose, stock):
    """The sum over all rows of seen falls; choose(t, stock, past) tells the level, past all that was before."""
    total = Fraction(0)
    for row in product(*[chances(day) for day in falls]):
        chance, paid, now, past = Fraction(1), 0, stock, ()
        for t, (fall, likely) in enumerate(row):
            level = choose(t, now, past)
            paid += ordered(shop, now, level)
            past += ((now, level, fall),)
            now, cost = fallen(shop, level, fall)
            paid += cost
            chance *= likely
        total += chance * (paid + ended(shop, now))
    return total


def cost_by_rule(shop, falls, rule, stock):
    return cost_by_rows(shop, falls, lambda t, now, past: rule[t][now + shop[1]], stock)


@lru_cache(maxsize=None)
def behind_level(shop, falls, t, level):
    """What the level costs from the fall of day t on, where the cheapest is done on each later day."""
    total = Fraction(0)
    for fall, likely in chances(falls[t]):
        stock, cost = fallen(shop, level, fall)
        total += likely * (cost + cheapest_cost(shop, falls, t + 1, stock))
    return total


@lru_cache(maxsize=None)
def cheapest_cost(shop, falls, t, stock):
    if t == len(falls):
        return Fraction(ended(shop, stock))
    return min(costs_from(shop, falls, t, stock).values())


def costs_from(shop, falls, t, stock):
    """What each level costs from the stock on day t."""
    return {level: ordered(shop, stock, level) + behind_level(shop, falls, t, level)
            for level in range(stock, shop[0] + 1)}


def cheapest_levels(shop, falls, t, stock):
    costs = costs_from(shop, falls, t, stock)
    return [level for level in costs if costs[level] == min(costs.values())]


def table_by_hand(shop, falls):
    return tuple([tuple([(as_share(cheapest_cost(shop, falls, t, stock)), cheapest_levels(shop, falls, t, stock)[0])
                         for stock in all_stocks(shop)]) for t in range(len(falls))])


def marks_by_hand(levels_from, least, top):
    """Point 16 word by word; levels_from(stock) tells the cheapest levels from the stock."""
    cheapest = {stock: levels_from(stock) for stock in range(least, top + 1)}
    must = [stock for stock in cheapest if stock not in cheapest[stock]]
    lesser = min([stock for stock in cheapest if not [other for other in must if other >= stock]])
    greater = lesser if lesser == least else min(cheapest[lesser - 1])
    wrong = [stock for stock in range(least, lesser) if greater not in cheapest[stock]]
    if not wrong:
        return ("marks", lesser, greater)
    return ("none", max([stock for stock in wrong if stock < max(must)]), max(must))


def free_by_hand(shop, falls, t):
    """The least free stock on day t: no row of seen falls brings it below -depth."""
    return max([sum([fall for fall, likely in row]) for row in product(*[chances(day) for day in falls[t:]])]) - shop[1]


def mean_by_hand(shop, day, levels):
    """The mean of a lasting rule, by how often each stock is come to."""
    stocks = all_stocks(shop)
    # One row for each stock: how often it is come to, less how often it is left, is 0; all together are 1.
    rows = [[Fraction(0)] * (len(stocks) + 1) for _ in stocks]
    costs = []
    for at, (stock, level) in enumerate(zip(stocks, levels)):
        rows[at][at] -= 1
        cost = Fraction(ordered(shop, stock, level))
        for fall, likely in chances(day):
            after, paid = fallen(shop, level, fall)
            rows[after + shop[1]][at] += likely
            cost += likely * paid
        costs.append(cost)
    rows[0] = [Fraction(1)] * (len(stocks) + 1)
    return sum([often * cost for often, cost in zip(solved_by_hand(rows), costs)])


def solved_by_hand(rows):
    rows = [list(row) for row in rows]
    for k in range(len(rows)):
        found = next(at for at in range(k, len(rows)) if rows[at][k])
        rows[k], rows[found] = rows[found], rows[k]
        rows[k] = [number / rows[k][k] for number in rows[k]]
        for at in range(len(rows)):
            if at != k:
                rows[at] = [number - rows[at][k] * other for number, other in zip(rows[at], rows[k])]
    return [row[-1] for row in rows]


def worths_by_hand(shop, day, levels):
    """The mean and the worths, the least stock's 0, that meet the equations of the levels."""
    rows = []
    for at, (stock, level) in enumerate(zip(all_stocks(shop), levels)):
        # The mean has the place of the least stock's worth.
        row = [Fraction(0)] * len(levels)
        row[at] += 1
        cost = Fraction(ordered(shop, stock, level))
        for fall, likely in chances(day):
            after, paid = fallen(shop, level, fall)
            row[after + shop[1]] -= likely
            cost += likely * paid
        rows.append([Fraction(1)] + row[1:] + [cost])
    mean, *worths = solved_by_hand(rows)
    return mean, [Fraction(0)] + worths


def looking_back(seed, top):
    """A choice of levels by all that was before, for cost_by_rows."""
    def choose(t, stock, past):
        mixed = seed + t
        for day in past:
            for number in day:
                mixed = mixed * 1009 + number
        return Dice(mixed * 101 + stock).throw(stock, top)
    return choose


def costs_by_worths(shop, day, worths, stock):
    """What each level costs from the stock, the next stock's worth with it."""
    told = {}
    for level in range(stock, shop[0] + 1):
        told[level] = Fraction(ordered(shop, stock, level))
        for fall, likely in chances(day):
            after, paid = fallen(shop, level, fall)
            told[level] += likely * (paid + worths[after + shop[1]])
    return told


def thrown_lasting(dice, reach, price):
    """A shop, and a day whose greatest seen fall is no less than top and depth together."""
    shop = thrown_shop(dice, reach, price)
    day = list(thrown_day(dice, 8)) + [0] * 8
    day = day[:dice.throw(shop[0] + shop[1] + 1, 8)]
    day[dice.throw(shop[0] + shop[1], len(day) - 1)] = dice.throw(1, 1000)
    return shop, tuple(day)


@lru_cache(maxsize=None)
def late_cost(shop, falls, lag, t, stock, way):
    """The least cost from the morning of day t on; way has what comes on this morning and on each one behind it.

    Each level is tried, and nothing is taken for granted of what lies there.
    """
    if t == len(falls):
        assert not any(way)
        return Fraction(ended(shop, stock))
    return min(late_costs(shop, falls, lag, t, stock, way).values())


def late_costs(shop, falls, lag, t, stock, way):
    """What each level costs on day t, the stock and what is under way being so on its morning."""
    here, under_way = stock + way[0], way[1:]
    counted = here + sum(under_way)
    levels = range(counted, shop[0] + 1) if t < len(falls) - lag else (counted,)
    told = {}
    for level in levels:
        told[level] = Fraction(ordered(shop, counted, level))
        for fall, likely in chances(falls[t]):
            after, paid = fallen(shop, here, fall)
            told[level] += likely * (paid + late_cost(shop, falls, lag, t + 1, after, under_way + (level - counted,)))
    return told


def late_cost_by(shop, falls, lag, stock, choose):
    """What it costs to order by choose(t, counted), row by row of falls."""
    total = Fraction(0)
    for row in product(*[chances(day) for day in falls]):
        chance, paid, now, comes = Fraction(1), 0, stock, [0] * (len(falls) + lag)
        for t, (fall, likely) in enumerate(row):
            now += comes[t]
            if t < len(falls) - lag:
                counted = now + sum(comes[t + 1:])
                level = choose(t, counted)
                paid += ordered(shop, counted, level)
                comes[t + lag] = level - counted
            now, cost = fallen(shop, now, fall)
            paid += cost
            chance *= likely
        total += chance * (paid + ended(shop, now))
    return total


def thrown_free_stock(dice, reach, price, days, most):
    """A shop, falls of more than one day, and a stock that is free on day 0."""
    while True:
        shop = thrown_shop(dice, reach, price)
        falls = tuple([thrown_day(dice, most) for _ in range(dice.throw(2, days))])
        first = free_by_hand(shop, falls, 0)
        if first <= shop[0]:
            return shop, falls, dice.throw(max(first, -shop[1]), shop[0])


def all_stands(shop):
    return list(product(all_stocks(shop), all_stocks(shop)))


def all_raises(shop, stand):
    return list(product(*[range(stock, shop[0] + 1) for stock in stand]))


def raise_by_hand(shop, stand, raised):
    """The order's cost, each piece taken by itself."""
    pieces = sum([len(range(stock, level)) for stock, level in zip(stand, raised)])
    return (shop[2] if tuple(stand) != tuple(raised) else 0) + shop[3] * pieces


def double_chances(day):
    total = sum([sum(line) for line in day])
    return [((i, j), Fraction(weight, total)) for i, line in enumerate(day) for j, weight in enumerate(line) if weight]


@lru_cache(maxsize=None)
def double_cost(shop, double, t, stand):
    if t == len(double):
        return Fraction(sum([ended(shop, stock) for stock in stand]))
    return min(double_costs(shop, double, t, stand).values())


@lru_cache(maxsize=None)
def behind_raise(shop, double, t, raised):
    """What the raise costs from the falls of day t on."""
    total = Fraction(0)
    for both, likely in double_chances(double[t]):
        one, other = [fallen(shop, level, fall) for level, fall in zip(raised, both)]
        total += likely * (one[1] + other[1] + double_cost(shop, double, t + 1, (one[0], other[0])))
    return total


def double_costs(shop, double, t, stand):
    """What each raise costs from the stand on day t."""
    return {raised: raise_by_hand(shop, stand, raised) + behind_raise(shop, double, t, raised)
            for raised in all_raises(shop, stand)}


def cheapest_raises(shop, double, t, stand):
    costs = double_costs(shop, double, t, stand)
    return [raised for raised in costs if costs[raised] == min(costs.values())]


def double_by_hand(shop, double):
    return tuple([tuple([(as_share(double_cost(shop, double, t, stand)), min(cheapest_raises(shop, double, t, stand)))
                         for stand in all_stands(shop)]) for t in range(len(double))])


def thrown_double_day(dice, most):
    rows, columns = dice.throw(1, most), dice.throw(1, most)
    day = [[dice.pick((0, 1, dice.throw(0, 9), dice.throw(0, 1000))) for _ in range(columns)] for _ in range(rows)]
    if not any([any(line) for line in day]):
        day[dice.throw(0, rows - 1)][dice.throw(0, columns - 1)] = dice.throw(1, 1000)
    return tuple([tuple(line) for line in day])


def thrown_double(dice, days):
    return tuple([thrown_double_day(dice, 3) for _ in range(dice.throw(1, days))])
