"""Shops, falls, and what a single order, day and end cost."""

from twomarks.whole import is_whole_within

# The places of a shop's numbers.
TOP = 0
DEPTH = 1
START = 2
PIECE = 3
KEEP = 4
LACK = 5
LOST = 6
BACK = 7
LATE = 8

SHOP_NUMBERS = 9
MOST_REACH = 39
MOST_PRICE = 1000000
MOST_WEIGHTS = 8
MOST_WEIGHT = 1000
MOST_DAYS = 6


def is_shop(thing):
    """Whether whatever thing is a shop."""
    if not isinstance(thing, tuple) or len(thing) != SHOP_NUMBERS:
        return False
    # Top and depth may be held to the bound of prices too: their own bound is narrower.
    if not all([is_whole_within(number, 0, MOST_PRICE) for number in thing]):
        return False
    return thing[TOP] + thing[DEPTH] <= MOST_REACH


def is_day(thing):
    """Whether whatever thing is a day's falls."""
    if not isinstance(thing, tuple) or not 1 <= len(thing) <= MOST_WEIGHTS:
        return False
    if not all([is_whole_within(weight, 0, MOST_WEIGHT) for weight in thing]):
        return False
    return any([weight > 0 for weight in thing])


def is_falls(thing):
    """Whether whatever thing is falls, one to six days of them."""
    if not isinstance(thing, tuple) or not 1 <= len(thing) <= MOST_DAYS:
        return False
    return all([is_day(day) for day in thing])


def stocks(shop):
    """All stocks of the shop, rising."""
    return tuple(range(-shop[DEPTH], shop[TOP] + 1))


def is_level(shop, stock, thing):
    """Whether whatever thing is a level for the stock."""
    return is_whole_within(thing, stock, shop[TOP])


def greatest_seen(day):
    """The greatest fall of the day that is seen."""
    return max([fall for fall, weight in enumerate(day) if weight > 0])


def order_cost(shop, stock, level):
    """What it costs to come from the stock to the level; no order costs nothing."""
    if level <= stock:
        return 0
    return shop[START] + shop[PIECE] * (level - stock)


def next_stock(shop, level, fall):
    """The stock behind the fall, never below -depth."""
    return max(level - fall, -shop[DEPTH])


def day_cost(shop, level, fall):
    """What the day costs behind its order: keeping, lacking, and what is sold never."""
    stock = next_stock(shop, level, fall)
    sold_never = stock - (level - fall)
    held = shop[KEEP] * stock if stock > 0 else shop[LACK] * -stock
    return held + shop[LOST] * sold_never


def end_cost(shop, stock):
    """What the stock behind the last day costs; below 0 where it brings something."""
    if stock > 0:
        return -shop[BACK] * stock
    return shop[LATE] * -stock
