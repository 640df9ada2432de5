import unittest
from itertools import product

from brute import (
    Dice, all_stocks, as_share, chances, ended, fallen, ordered, thrown_falls, thrown_rule, thrown_shop,
)
from things import told_unchanged
from twomarks.rules import cost_of
from twomarks.runs import run

# Stocks from -1 to 2.
SHOP = (2, 1, 5, 2, 1, 4, 10, 7, 3)
RULE = ((1, 0, 2, 2), (-1, 2, 1, 2), (2, 0, 1, 2))


def by_hand(shop, rule, stock, row):
    told = []
    for t, fall in enumerate(row):
        level = rule[t][stock + shop[1]]
        after, cost = fallen(shop, level, fall)
        told.append((stock, level, fall, ordered(shop, stock, level) + cost))
        stock = after
    return told


class Run(unittest.TestCase):
    def ask(self, shop, rule, stock, row, wanted):
        with self.subTest(shop=shop, rule=rule, stock=stock, row=row):
            told = told_unchanged(self, run, shop, rule, stock, row)
            self.assertIs(type(told), list)
            for day in told:
                self.assertIs(type(day), tuple)
                self.assertEqual([type(part) for part in day], [int] * 4)
            self.assertEqual(told, wanted)

    def test_written_runs(self):
        self.ask(SHOP, RULE, -1, (1, 2, 0), [(-1, 1, 1, 9), (0, 2, 2, 9), (0, 0, 0, 0)])
        self.ask(SHOP, RULE, -1, (0, 3, 1), [(-1, 1, 0, 10), (1, 1, 3, 14), (-1, 2, 1, 12)])
        self.ask(SHOP, RULE, 2, (0, 0, 0), [(2, 2, 0, 2), (2, 2, 0, 2), (2, 2, 0, 2)])
        self.ask(SHOP, RULE, 1, (0, 4, 9), [(1, 2, 0, 9), (2, 2, 4, 14), (-1, 2, 9, 75)])

    def test_the_end_is_not_counted(self):
        for end in ((0, 0), (1000, 0), (0, 1000), (5, 5)):
            self.ask(SHOP[:7] + end, RULE, 2, (0, 0, 4), [(2, 2, 0, 2), (2, 2, 0, 2), (2, 2, 4, 14)])

    def test_fewer_falls_than_days(self):
        whole = [(-1, 1, 1, 9), (0, 2, 2, 9), (0, 0, 0, 0)]
        for many in range(4):
            self.ask(SHOP, RULE, -1, (1, 2, 0)[:many], whole[:many])
        for stock in (-1, 0, 1, 2):
            self.ask(SHOP, RULE, stock, (), [])

    def test_great_falls(self):
        great = 10 ** 30 - 1
        self.ask(SHOP, RULE, 1, (great,), [(1, 2, great, 7 + 4 + 10 * (great - 3))])
        self.ask(SHOP, RULE, -1, (great, great),
                 [(-1, 1, great, 9 + 4 + 10 * (great - 2)), (-1, -1, great, 4 + 10 * great)])
        self.ask((2, 1, 5, 2, 1, 4, 0, 7, 3), RULE, 0, (8, 1000, 10 ** 9),
                 [(0, 0, 8, 4), (-1, -1, 1000, 4), (-1, 2, 10 ** 9, 15)])

    def test_thrown_runs(self):
        dice = Dice(1)
        for _ in range(300):
            shop, falls = thrown_shop(dice, 12, 1000), thrown_falls(dice, 6, 4)
            rule = thrown_rule(dice, shop, falls)
            stock = dice.throw(-shop[1], shop[0])
            row = tuple([dice.pick((0, 1, dice.throw(0, 7), dice.throw(0, 60)))
                         for _ in range(dice.throw(0, len(falls)))])
            self.ask(shop, rule, stock, row, by_hand(shop, rule, stock, row))

    def test_the_runs_of_all_rows_and_their_ends_are_the_cost(self):
        dice = Dice(2)
        for _ in range(40):
            shop, falls = thrown_shop(dice, 6, 100), thrown_falls(dice, 3, 4)
            rule = thrown_rule(dice, shop, falls)
            for stock in all_stocks(shop):
                total = 0
                for seen in product(*[chances(day) for day in falls]):
                    days = run(shop, rule, stock, tuple([fall for fall, likely in seen]))
                    last, level, fall, cost = days[-1]
                    paid = sum([day[3] for day in days]) + ended(shop, fallen(shop, level, fall)[0])
                    for fall, likely in seen:
                        paid *= likely
                    total += paid
                self.assertEqual(cost_of(shop, falls, rule, stock), as_share(total))

    def test_the_told_list_is_the_asker_s_own(self):
        first = run(SHOP, RULE, -1, (1, 2, 0))
        kept = list(first)
        first[0] = None
        first.append("more")
        first.pop(1)
        second = run(SHOP, RULE, -1, (1, 2, 0))
        self.assertEqual(second, kept)
        second.clear()
        self.assertEqual(run(SHOP, RULE, -1, (1, 2, 0)), kept)
        nothing = run(SHOP, RULE, 0, ())
        nothing.append(1)
        self.assertEqual(run(SHOP, RULE, 0, ()), [])


if __name__ == "__main__":
    unittest.main()
