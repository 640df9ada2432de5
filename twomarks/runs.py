"""Runs: what happens by a rule where the falls are known."""

from twomarks.shops import DEPTH, day_cost, next_stock, order_cost


def run(shop, rule, stock, row):
    """A list with (stock, level, fall, cost) for each day of the row, the end not counted."""
    told = []
    for levels, fall in zip(rule, row):
        level = levels[stock + shop[DEPTH]]
        cost = order_cost(shop, stock, level) + day_cost(shop, level, fall)
        told.append((stock, level, fall, cost))
        stock = next_stock(shop, level, fall)
    return told
