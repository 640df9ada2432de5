"""What the document promises over the whole program."""

import inspect
import unittest
from fractions import Fraction
from importlib import import_module
from itertools import product

from brute import (
    Dice, all_stocks, as_number, as_share, chances, cost_by_rows, ended, looking_back, thrown_double, thrown_falls,
    thrown_free_stock, thrown_lasting, thrown_levels, thrown_rule, thrown_shop,
)
from things import put, told_unchanged
from twomarks.bends import bent, free_from, sums
from twomarks.book import Book
from twomarks.checker import lets
from twomarks.desk import Desk
from twomarks.double import is_double, least_double, lets_double
from twomarks.errors import ShopError
from twomarks.ever import lasting, lasting_marks, mean_of
from twomarks.everlooks import lets_lasting
from twomarks.marks import marked, marks
from twomarks.reader import read_falls, read_rule, read_share, read_shop, read_table
from twomarks.rules import cost_of, is_rule
from twomarks.runs import run
from twomarks.shares import below, is_share, plus, share, times
from twomarks.shops import day_cost, end_cost, is_day, is_falls, is_shop, next_stock, order_cost, stocks
from twomarks.table import least, rule_in
from twomarks.texts import show_falls, show_rule, show_share, show_shop, show_table
from twomarks.underway import least_late, short_table

SHOP = (2, 1, 5, 2, 1, 4, 10, 1, 3)
FALLS = ((1, 1), (1, 0, 2))

# How many arguments each name of the interface takes.
INTERFACE = {
    "shares": {"is_share": 1, "share": 2, "plus": 2, "times": 2, "below": 2},
    "shops": {"is_shop": 1, "is_day": 1, "is_falls": 1, "stocks": 1, "order_cost": 3, "day_cost": 3, "end_cost": 2,
              "next_stock": 3},
    "rules": {"is_rule": 3, "cost_of": 4},
    "runs": {"run": 4},
    "table": {"least": 2, "rule_in": 1},
    "checker": {"lets": 3},
    "bends": {"sums": 3, "free_from": 3, "bent": 4},
    "marks": {"marks": 4, "marked": 2},
    "ever": {"lasting": 2, "mean_of": 3, "lasting_marks": 2},
    "everlooks": {"lets_lasting": 3},
    "underway": {"least_late": 4, "short_table": 4},
    "double": {"is_double": 1, "least_double": 2, "lets_double": 3},
    "texts": {"show_shop": 1, "show_falls": 1, "show_rule": 1, "show_share": 1, "show_table": 1},
    "reader": {"read_shop": 1, "read_falls": 1, "read_rule": 1, "read_share": 1, "read_table": 1},
    "book": {"Book": 2},
    "desk": {"Desk": 1},
}


def prices_times(shop, many):
    return shop[:2] + tuple([price * many for price in shop[2:]])


def costs_times(table, many):
    """The table, each cost so many times greater."""
    return tuple([tuple([(as_share(many * as_number(cost)), level) for cost, level in day]) for day in table])


def thrown_free_shop(dice, reach, price):
    """A shop whose late is no less than its back, falls, and stocks free from day 0 on."""
    while True:
        shop, falls = thrown_shop(dice, reach, price), thrown_falls(dice, 4, 4)
        if free_from(shop, falls, 0) <= shop[0]:
            return shop[:8] + (max(shop[7:]),), falls


class Interface(unittest.TestCase):
    def test_names_and_arguments(self):
        for name, parts in INTERFACE.items():
            module = import_module(f"twomarks.{name}")
            for part, many in parts.items():
                with self.subTest(module=name, part=part):
                    found = getattr(module, part)
                    self.assertEqual(found.__module__, f"twomarks.{name}")
                    self.assertEqual(len(inspect.signature(found).parameters), many)

    def test_errors(self):
        module = import_module("twomarks.errors")
        for name in ("NoShare", "NoMean", "NoStand", "NoText", "NoRow", "NoLevel", "NoFall", "NoBack"):
            self.assertEqual(getattr(module, name).__bases__, (ShopError,))
        self.assertEqual(ShopError.__bases__, (ValueError,))

    def test_methods(self):
        for kind, parts in ((Book, {"choose": 2, "fall": 2, "back": 1, "stock": 1, "paid": 1, "days": 1}), (Desk, {"say": 2})):
            for part, many in parts.items():
                self.assertEqual(len(inspect.signature(getattr(kind, part)).parameters), many)


class TextsToAnswers(unittest.TestCase):
    def say_row(self, desk, shop, rule, row):
        """The days of the row, said to the desk by the rule and taken back; what is paid, and the stock behind."""
        deeds = 0
        for levels, (fall, likely) in zip(rule, row):
            level = levels[int(desk.say("stock")) + shop[1]]
            desk.say(f"choose {level}")
            desk.say(f"fall {fall}")
            deeds += 2
        told = int(desk.say("paid")), int(desk.say("stock"))
        for _ in range(deeds):
            desk.say("back")
        self.assertEqual((desk.say("paid"), desk.say("stock"), desk.say("days")), ("0", "0", "none"))
        return told

    def test_the_desk_s_days_cost_what_the_desk_tells(self):
        dice = Dice(1)
        for _ in range(25):
            shop, falls = thrown_shop(dice, 6, 30), thrown_falls(dice, 3, 4)
            desk = Desk(show_shop(shop))
            desk.say("falls " + show_falls(falls))
            table = read_table(desk.say("table").replace("; ", "\n"))
            self.assertIs(lets(shop, falls, table), True)
            self.assertEqual(desk.say("lets " + desk.say("table")), "yes")
            rule = rule_in(table)
            for t, levels in enumerate(rule):
                for stock, level in zip(all_stocks(shop), levels):
                    self.assertEqual(desk.say(f"level {t} {stock}"), str(level))
            total = Fraction(0)
            for row in product(*[chances(day) for day in falls]):
                paid, stock = self.say_row(desk, shop, rule, row)
                chance = Fraction(1)
                for fall, likely in row:
                    chance *= likely
                total += chance * (paid + ended(shop, stock))
            self.assertEqual(read_share(desk.say("cost 0")), as_share(total))
            self.assertEqual(read_share(desk.say("cost 0")), cost_of(shop, falls, rule, 0))

    def test_the_rule_by_the_desk_s_marks(self):
        dice = Dice(2)
        for _ in range(60):
            shop, falls = thrown_free_shop(dice, 12, 50)
            desk = Desk(show_shop(shop))
            desk.say("falls " + show_falls(falls))
            pairs = []
            for t in range(len(falls)):
                name, lesser, greater = desk.say(f"marks {t} {free_from(shop, falls, t)}").split(" ")
                self.assertEqual(name, "marks")
                pairs.append((int(lesser), int(greater)))
            rule = read_rule(show_rule(marked(shop, tuple(pairs))))
            for stock in range(free_from(shop, falls, 0), shop[0] + 1):
                self.assertEqual(show_share(cost_of(shop, falls, rule, stock)), desk.say(f"cost {stock}"))

    def test_the_desk_s_mean(self):
        dice = Dice(3)
        for _ in range(40):
            shop, day = thrown_lasting(dice, 7, 50)
            mean = read_share(Desk(show_shop(shop)).say("mean " + show_falls((day,))))
            paper = lasting(shop, day)
            self.assertIs(lets_lasting(shop, day, (mean,) + paper[1:]), True)
            self.assertIs(below(mean_of(shop, day, thrown_levels(dice, shop)), mean), False)


class WhatRulesCost(unittest.TestCase):
    def paid_in_books(self, shop, falls, choose, stock):
        """Over all rows of seen falls: what a Book has paid and the end, each by its row's weights."""
        total, weights = 0, 0
        for row in product(*[[fall for fall, weight in enumerate(day) if weight] for day in falls]):
            book, weight = Book(shop, stock), 1
            for t, fall in enumerate(row):
                past = tuple([(now, level, before) for now, level, before, cost in book.days()])
                book.choose(choose(t, book.stock(), past))
                book.fall(fall)
                weight *= falls[t][fall]
            total += weight * (book.paid() + end_cost(shop, book.stock()))
            weights += weight
        return share(total, weights)

    def test_books_by_rules(self):
        dice = Dice(4)
        for _ in range(50):
            shop, falls = thrown_shop(dice, 6, 50), thrown_falls(dice, 3, 5)
            rule = thrown_rule(dice, shop, falls)
            for stock in all_stocks(shop):
                told = self.paid_in_books(shop, falls, lambda t, now, past: rule[t][now + shop[1]], stock)
                self.assertEqual(told, cost_of(shop, falls, rule, stock))

    def test_none_costs_less_than_the_table(self):
        dice = Dice(5)
        for _ in range(30):
            shop, falls = thrown_shop(dice, 5, 20), thrown_falls(dice, 3, 4)
            table = least(shop, falls)
            self.assertIs(lets(shop, falls, table), True)
            for stock, (cost, level) in zip(all_stocks(shop), table[0]):
                back = looking_back(dice.throw(0, 10 ** 6), shop[0])
                told = self.paid_in_books(shop, falls, back, stock)
                self.assertEqual(told, as_share(cost_by_rows(shop, falls, back, stock)))
                self.assertIs(below(told, cost), False)
                self.assertIs(below(cost_of(shop, falls, thrown_rule(dice, shop, falls), stock), cost), False)
                self.assertEqual(cost_of(shop, falls, rule_in(table), stock), cost)

    def test_runs_are_books(self):
        dice = Dice(6)
        for _ in range(60):
            shop, falls = thrown_shop(dice, 9, 50), thrown_falls(dice, 6, 8)
            rule, stock = thrown_rule(dice, shop, falls), dice.pick(all_stocks(shop))
            row = tuple([dice.throw(0, 9) for _ in falls])[:dice.throw(0, len(falls))]
            book = Book(shop, stock)
            for t, fall in enumerate(row):
                book.choose(rule[t][book.stock() + shop[1]])
                book.fall(fall)
            self.assertEqual(run(shop, rule, stock, row), book.days())


class TwoMarks(unittest.TestCase):
    def test_bends_marks_and_costs(self):
        dice = Dice(7)
        for _ in range(80):
            shop, falls = thrown_free_shop(dice, 12, 50)
            told = []
            for t in range(len(falls)):
                first = free_from(shop, falls, t)
                self.assertIsNone(bent(shop, falls, t, max(first, -shop[1])))
                told.append(marks(shop, falls, t, first))
                self.assertEqual(told[-1][0], "marks")
                without = marks(put(shop, 2, 0), falls, t, first)
                self.assertEqual(without[1], without[2])
            rule = marked(shop, tuple([pair[1:] for pair in told]))
            self.assertIs(is_rule(shop, falls, rule), True)
            for stock in range(free_from(shop, falls, 0), shop[0] + 1):
                self.assertEqual(cost_of(shop, falls, rule, stock), least(shop, falls)[0][stock + shop[1]][0])

    def test_dearer_lacking_and_keeping(self):
        dice = Dice(8)
        unlike = 0
        for _ in range(80):
            shop, falls = thrown_free_shop(dice, 12, 50)
            for t in range(len(falls)):
                first = free_from(shop, falls, t)
                own = shop if t == len(falls) - 1 else put(shop, 2, 0)
                name, lesser, greater = marks(own, falls, t, first)
                for at, sign in ((5, 1), (4, -1)):
                    other, dear_lesser, dear_greater = marks(put(own, at, own[at] + dice.throw(1, 40)), falls, t, first)
                    self.assertGreaterEqual(sign * (dear_lesser - lesser), 0)
                    self.assertGreaterEqual(sign * (dear_greater - greater), 0)
                    unlike += (dear_lesser, dear_greater) != (lesser, greater)
        self.assertGreater(unlike, 20)


class Prices(unittest.TestCase):
    def test_so_many_times_greater(self):
        dice = Dice(9)
        for _ in range(30):
            many = dice.pick((2, 3, 1000))
            shop, falls, stock = thrown_free_stock(dice, 7, 50, 4, 4)
            greater = prices_times(shop, many)
            self.assertEqual(least(greater, falls), costs_times(least(shop, falls), many))
            rule = thrown_rule(dice, shop, falls)
            self.assertEqual(as_number(cost_of(greater, falls, rule, stock)), many * as_number(cost_of(shop, falls, rule, stock)))
            for t in range(len(falls)):
                self.assertEqual([as_number(one) for one in sums(greater, falls, t)],
                                 [many * as_number(one) for one in sums(shop, falls, t)])
                self.assertEqual(bent(greater, falls, t, -shop[1]), bent(shop, falls, t, -shop[1]))
                self.assertEqual(marks(greater, falls, t, -shop[1]), marks(shop, falls, t, -shop[1]))
            self.assertEqual(short_table(greater, falls, 1, stock), costs_times(short_table(shop, falls, 1, stock), many))
            self.assertEqual(as_number(least_late(greater, falls, 1, stock)), many * as_number(least_late(shop, falls, 1, stock)))
            self.assertEqual([day[:3] for day in run(greater, rule, stock, (1, 2))], [day[:3] for day in run(shop, rule, stock, (1, 2))])

    def test_so_many_times_greater_for_ever_and_for_two_stores(self):
        dice = Dice(10)
        for _ in range(30):
            many = dice.pick((2, 3, 1000))
            shop, day = thrown_lasting(dice, 7, 50)
            greater = prices_times(shop, many)
            mean, worths, levels = lasting(shop, day)
            self.assertEqual(as_number(lasting(greater, day)[0]), many * as_number(mean))
            paper = (as_share(many * as_number(mean)), tuple([as_share(many * as_number(worth)) for worth in worths]), levels)
            self.assertIs(lets_lasting(greater, day, paper), True)
            self.assertEqual(lasting_marks(greater, day), lasting_marks(shop, day))
            shop, double = thrown_shop(dice, 4, 50), thrown_double(dice, 2)
            self.assertEqual(least_double(prices_times(shop, many), double), costs_times(least_double(shop, double), many))

    def test_the_desk_s_levels_are_the_same(self):
        dice = Dice(11)
        for _ in range(20):
            shop, falls = thrown_shop(dice, 5, 50), thrown_falls(dice, 3, 4)
            one, other = Desk(show_shop(shop)), Desk(show_shop(prices_times(shop, 7)))
            for desk in (one, other):
                desk.say("falls " + show_falls(falls))
            for stock in all_stocks(shop):
                self.assertEqual(other.say(f"level 0 {stock}"), one.say(f"level 0 {stock}"))
                self.assertEqual(other.say(f"marks 0 {stock}"), one.say(f"marks 0 {stock}"))
                self.assertEqual(read_share(other.say(f"cost {stock}")), times((7, 1), read_share(one.say(f"cost {stock}"))))

    def test_added(self):
        dice = Dice(12)
        for _ in range(60):
            shop, falls, stock = thrown_free_stock(dice, 8, 50, 4, 4)
            other = shop[:2] + thrown_shop(dice, 3, 50)[2:]
            both = shop[:2] + tuple([one + two for one, two in zip(shop[2:], other[2:])])
            for days in zip(least(shop, falls), least(other, falls), least(both, falls)):
                for one, two, together in zip(*days):
                    self.assertIs(below(together[0], plus(one[0], two[0])), False)
            apart = plus(least_late(shop, falls, 1, stock), least_late(other, falls, 1, stock))
            self.assertIs(below(least_late(both, falls, 1, stock), apart), False)


class ForEver(unittest.TestCase):
    def test_so_many_days(self):
        dice = Dice(13)
        for _ in range(40):
            shop, day = thrown_lasting(dice, 5, 50)
            shop = shop[:7] + (0, 0)
            mean, worths, levels = lasting(shop, day)
            numbers = [as_number(worth) for worth in worths]
            for many in (1, 3, 6):
                for stock, number, (cost, level) in zip(all_stocks(shop), numbers, least(shop, (day,) * many)[0]):
                    about = many * as_number(mean) + number
                    self.assertGreaterEqual(as_number(cost), about - max(numbers))
                    self.assertLessEqual(as_number(cost_of(shop, (day,) * many, (levels,) * many, stock)), about - min(numbers))


class UnderWay(unittest.TestCase):
    def test_no_less_than_at_once(self):
        dice = Dice(14)
        for _ in range(60):
            shop, falls, stock = thrown_free_stock(dice, 8, 50, 5, 3)
            costs = [least(shop, falls)[0][stock + shop[1]][0]]
            costs += [least_late(shop, falls, days, stock) for days in range(1, min(4, len(falls)))]
            for one, other in zip(costs, costs[1:]):
                self.assertIs(below(other, one), False)


class ReadBack(unittest.TestCase):
    def test_all_that_is_written(self):
        dice = Dice(15)
        for _ in range(40):
            shop, falls, stock = thrown_free_stock(dice, 8, 1000000, 4, 4)
            self.assertEqual(read_shop(show_shop(shop)), shop)
            self.assertEqual(read_falls(show_falls(falls)), falls)
            for table in (least(shop, falls), short_table(shop, falls, 1, stock)):
                self.assertEqual(read_table(show_table(table)), table)
                self.assertEqual(read_rule(show_rule(rule_in(table))), rule_in(table))
            self.assertEqual(read_share(show_share(least_late(shop, falls, 1, stock))), least_late(shop, falls, 1, stock))


class Unchanged(unittest.TestCase):
    def test_each_name_tells_the_same_again(self):
        table, double, day = least(SHOP, FALLS), (((1, 2), (3, 4)),), (1, 0, 0, 1)
        rule, paper, late_shop = rule_in(table), lasting(SHOP, day), put(SHOP, 1, 5)
        asked = [
            (is_share, (1, 2)), (share, 6, -4), (plus, (1, 2), (1, 3)), (times, (1, 2), (2, 3)), (below, (1, 2), (2, 3)),
            (is_shop, SHOP), (is_day, day), (is_falls, FALLS), (stocks, SHOP), (order_cost, SHOP, 0, 2), (day_cost, SHOP, 1, 3),
            (end_cost, SHOP, 1), (next_stock, SHOP, 1, 9), (is_rule, SHOP, FALLS, rule), (cost_of, SHOP, FALLS, rule, 0),
            (run, SHOP, rule, 0, (1, 2)), (least, SHOP, FALLS), (rule_in, table), (lets, SHOP, FALLS, table),
            (sums, SHOP, FALLS, 0), (free_from, SHOP, FALLS, 0), (bent, SHOP, FALLS, 0, -1), (marks, SHOP, FALLS, 0, -1),
            (marked, SHOP, ((0, 1), (1, 2))), (lasting, SHOP, day), (mean_of, SHOP, day, paper[2]), (lasting_marks, SHOP, day),
            (lets_lasting, SHOP, day, paper), (least_late, late_shop, FALLS, 1, 0), (short_table, late_shop, FALLS, 1, 0),
            (is_double, double), (least_double, SHOP, double), (lets_double, SHOP, double, least_double(SHOP, double)),
            (show_shop, SHOP), (show_falls, FALLS), (show_rule, rule), (show_share, (1, 2)), (show_table, table),
            (read_shop, show_shop(SHOP)), (read_falls, show_falls(FALLS)), (read_rule, show_rule(rule)),
            (read_share, "1/2"), (read_table, show_table(table)),
        ]
        self.assertEqual(sorted([one[0].__name__ for one in asked]),
                         sorted([part for parts in INTERFACE.values() for part in parts if part not in ("Book", "Desk")]))
        told = [told_unchanged(self, *one) for one in asked]
        # Asked in another order, and with lists that were told changed meanwhile.
        for one, wanted in reversed(list(zip(asked, told))):
            again = one[0](*one[1:])
            self.assertEqual(repr(again), repr(wanted))
            if type(again) is list:
                again.append(None)
                self.assertEqual(repr(one[0](*one[1:])), repr(wanted))

    def test_lists_that_are_looked_at(self):
        for look in (is_share, is_shop, is_day, is_falls, is_double, lambda thing: is_rule(SHOP, FALLS, thing),
                     lambda thing: lets(SHOP, FALLS, thing), lambda thing: lets_lasting(SHOP, (1, 0, 0, 1), thing),
                     lambda thing: lets_double(SHOP, (((1,),),), thing)):
            for thing in ([1, [2, {"a": [3]}]], {"a": [1], "b": {"c": ()}}, ([1], [2]), [[1, 2], [3, 4]]):
                self.assertIs(told_unchanged(self, look, thing), False)

    def test_a_book_leaves_the_shop(self):
        shop = tuple(list(SHOP))
        book = Book(shop, 0)
        for deed, number in ((book.choose, 2), (book.fall, 7), (book.fall, 0)):
            deed(number)
        book.back()
        self.assertEqual(shop, SHOP)


if __name__ == "__main__":
    unittest.main()
