"""A desk: rows of words in, texts out."""

from twomarks.book import Book
from twomarks.checker import lets
from twomarks.errors import NoLevel, NoRow, NoText
from twomarks.ever import lasting
from twomarks.marks import marks
from twomarks.reader import read_falls, read_number, read_shop, read_table
from twomarks.shops import DEPTH, stocks
from twomarks.table import least
from twomarks.texts import show_number, show_share, show_table


def ask_stock(desk, stock):
    """NoLevel where the shop has no such stock."""
    if stock not in stocks(desk.shop):
        raise NoLevel("no stock of the shop")


def read_place(desk, words):
    """The day and the stock that the words name; NoLevel where there is no such day or stock."""
    t = read_number(words[0])
    stock = read_number(words[1])
    if not 0 <= t < len(desk.falls):
        raise NoLevel("no day of the falls")
    ask_stock(desk, stock)
    return (t, stock)


def keep_falls(desk, words):
    desk.falls = read_falls(words[0])
    return "ok"


def tell_cost(desk, words):
    stock = read_number(words[0])
    ask_stock(desk, stock)
    cost, level = least(desk.shop, desk.falls)[0][stock + desk.shop[DEPTH]]
    return show_share(cost)


def tell_level(desk, words):
    t, stock = read_place(desk, words)
    cost, level = least(desk.shop, desk.falls)[t][stock + desk.shop[DEPTH]]
    return show_number(level)


def tell_marks(desk, words):
    t, stock = read_place(desk, words)
    name, one, other = marks(desk.shop, desk.falls, t, stock)
    return f"{name} {one} {other}"


def tell_table(desk, words):
    return show_table(least(desk.shop, desk.falls)).replace("\n", "; ")


def tell_lets(desk, words):
    # A line end would be taken for a written one.
    if "\n" in words[0]:
        raise NoText("a line end stands in a row")
    paper = read_table(words[0].replace("; ", "\n"))
    return "yes" if lets(desk.shop, desk.falls, paper) else "no"


def tell_mean(desk, words):
    # A word has no blank, so falls that are written in it have one day.
    mean, worths, levels = lasting(desk.shop, read_falls(words[0])[0])
    return show_share(mean)


def choose_level(desk, words):
    desk.book.choose(read_number(words[0]))
    return "ok"


def tell_fall(desk, words):
    desk.book.fall(read_number(words[0]))
    return "ok"


def take_back(desk, words):
    desk.book.back()
    return "ok"


def tell_stock(desk, words):
    return show_number(desk.book.stock())


def tell_paid(desk, words):
    return show_number(desk.book.paid())


def tell_days(desk, words):
    days = [f"{stock}>{level}-{fall}:{cost}" for stock, level, fall, cost in desk.book.days()]
    return " ".join(days) if days else "none"


DEEDS = {
    "falls": keep_falls, "cost": tell_cost, "level": tell_level, "marks": tell_marks, "table": tell_table,
    "lets": tell_lets, "mean": tell_mean, "choose": choose_level, "fall": tell_fall, "back": take_back,
    "stock": tell_stock, "paid": tell_paid, "days": tell_days,
}

# How many words stand behind the first one; a whole text counts as one word.
MANY_WORDS = {
    "falls": 1, "cost": 1, "level": 2, "marks": 2, "table": 0, "lets": 1, "mean": 1, "choose": 1, "fall": 1,
    "back": 0, "stock": 0, "paid": 0, "days": 0,
}

WITH_A_TEXT = ("falls", "lets")
WITH_FALLS_KEPT = ("cost", "level", "marks", "table", "lets")


def words_behind(first, blank, rest):
    """The words behind the first one of a row."""
    if not blank:
        return []
    return [rest] if first in WITH_A_TEXT else rest.split(" ")


class Desk:
    """A shop, falls once they are kept, and a Book from stock 0."""

    def __init__(self, text):
        self.shop = read_shop(text)
        self.falls = None
        self.book = Book(self.shop, 0)

    def say(self, row):
        """The answer to the row; NoRow, NoText, or as the deed refuses."""
        if not isinstance(row, str):
            raise NoRow("a row is a text")
        first, blank, rest = row.partition(" ")
        if first not in DEEDS:
            raise NoRow("no row begins so")
        words = words_behind(first, blank, rest)
        if len(words) != MANY_WORDS[first]:
            raise NoRow("too many words or too few")
        if first in WITH_FALLS_KEPT and self.falls is None:
            raise NoRow("no falls are kept")
        deed = DEEDS[first]
        return deed(self, words)
