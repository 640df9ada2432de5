"""A book of days: levels that are chosen and falls that are told, and taken back."""

from twomarks.errors import NoBack, NoFall, NoLevel
from twomarks.shops import day_cost, is_level, next_stock, order_cost
from twomarks.whole import is_whole


class Book:
    """The days of a shop, from a stock."""

    def __init__(self, shop, stock):
        self.shop = shop
        self.morning = stock
        self.chosen = None
        self.spent = 0
        # Of each day what is told of it and the chosen level, None where none was: taking back brings this again.
        self.ended = []

    def choose(self, level):
        """Choose the day's level; NoLevel where it is none for the stock, or the second one."""
        if self.chosen is not None:
            raise NoLevel("a level is chosen for this day")
        if not is_level(self.shop, self.morning, level):
            raise NoLevel("no level for the stock")
        self.chosen = level
        self.spent += order_cost(self.shop, self.morning, level)

    def fall(self, many):
        """End the day by its fall; NoFall where it is none."""
        if not is_whole(many) or many < 0:
            raise NoFall("a fall is a whole number from 0 on")
        level = self.morning if self.chosen is None else self.chosen
        cost = day_cost(self.shop, level, many)
        told = (self.morning, level, many, order_cost(self.shop, self.morning, level) + cost)
        self.ended.append((told, self.chosen))
        self.spent += cost
        self.morning = next_stock(self.shop, level, many)
        self.chosen = None

    def back(self):
        """Take back the last deed; NoBack where none is left."""
        if self.chosen is not None:
            self.spent -= order_cost(self.shop, self.morning, self.chosen)
            self.chosen = None
            return
        if not self.ended:
            raise NoBack("nothing is left to be taken back")
        (stock, level, many, cost), chosen = self.ended.pop()
        self.spent -= day_cost(self.shop, level, many)
        self.morning = stock
        self.chosen = chosen

    def stock(self):
        """The stock, till the fall that of the morning."""
        return self.morning

    def paid(self):
        """What has been paid in all, the end not counted."""
        return self.spent

    def days(self):
        """A list with (stock, level, fall, cost) for each day that has ended."""
        return [told for told, chosen in self.ended]
