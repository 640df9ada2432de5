"""The reader: shops, falls, rules, shares and tables of their texts, NoText of all else."""

from twomarks.errors import NoText
from twomarks.shares import is_share
from twomarks.shops import is_falls, is_shop

FIGURES = "0123456789"
MOST_FIGURES = 400


def ask_text(thing):
    """NoText where whatever thing is no text."""
    if not isinstance(thing, str):
        raise NoText("no text")


def is_number(word):
    """Whether the word is a whole number as it is written."""
    figures = word.removeprefix("-")
    if not 1 <= len(figures) <= MOST_FIGURES or not all([sign in FIGURES for sign in figures]):
        return False
    return figures[0] != "0" or word == "0"


def read_number(word):
    """The whole number that the word is; NoText where it is none."""
    if not is_number(word):
        raise NoText("a word is no whole number as it is written")
    return int(word)


def read_shop(text):
    """The shop that is written so; NoText where none is."""
    ask_text(text)
    shop = tuple([read_number(word) for word in text.split(" ")])
    if not is_shop(shop):
        raise NoText("the numbers are no shop")
    return shop


def read_rule(text):
    """The days of whole numbers that are written so; NoText where none are."""
    ask_text(text)
    return tuple([tuple([read_number(word) for word in day.split(",")]) for day in text.split(" ")])


def read_falls(text):
    """The falls that are written so; NoText where none are."""
    falls = read_rule(text)
    if not is_falls(falls):
        raise NoText("the days are no falls")
    return falls


def read_share(text):
    """The share that is written so; NoText where none is."""
    ask_text(text)
    one = tuple([read_number(word) for word in text.split("/")])
    if not is_share(one):
        raise NoText("the numbers are no share")
    return one


def read_entry(word):
    """The share and the level of a stock; NoText where they aren't written so."""
    parts = word.split("@")
    if len(parts) != 2:
        raise NoText("a stock has one share and one level")
    return (read_share(parts[0]), read_number(parts[1]))


def read_table(text):
    """The days of shares and whole numbers that are written so; NoText where none are."""
    ask_text(text)
    return tuple([tuple([read_entry(word) for word in line.split(" ")]) for line in text.split("\n")])
