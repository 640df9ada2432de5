import unittest
from fractions import Fraction
from itertools import product

from brute import (
    Dice, all_levels, all_stocks, as_number, as_share, chances, cheapest_levels, cost_by_rows, ended, fallen, ordered,
    table_by_hand, thrown_falls, thrown_rule, thrown_shop,
)
from things import put, told_unchanged
from twomarks.rules import cost_of, is_rule
from twomarks.table import least, rule_in

# Stocks from -1 to 2.
SHOP = (2, 1, 5, 2, 1, 4, 10, 1, 3)
MILLION = 1000000
WIDE = (20, 19, 999999, 7, 13, 101, 5003, 11, 17)


def costs_of(shop, falls, t=0):
    return [as_number(cost) for cost, level in least(shop, falls)[t]]


def great_falls(dice):
    return tuple([tuple([dice.throw(1, 1000) for _ in range(8)]) for _ in range(6)])


class Least(unittest.TestCase):
    def ask(self, shop, falls, wanted):
        with self.subTest(shop=shop, falls=falls):
            told = told_unchanged(self, least, shop, falls)
            self.assertIs(type(told), tuple)
            for day in told:
                self.assertIs(type(day), tuple)
                for entry in day:
                    self.assertIs(type(entry), tuple)
                    self.assertIs(type(entry[0]), tuple)
                    self.assertEqual([type(part) for part in entry[0] + entry[1:]], [int] * 3)
            self.assertEqual(told, wanted)

    def test_written_tables(self):
        last = (((9, 1), 1), ((7, 2), 0), ((0, 1), 1), ((0, 1), 2))
        self.ask(SHOP, ((1, 1),), (last,))
        first = (((45, 4), 1), ((33, 4), 0), ((9, 4), 1), ((3, 2), 2))
        self.ask(SHOP, ((1, 1), (1, 1)), (first, last))
        self.ask((0, 0, 9, 9, 9, 9, 4, 9, 9), ((3, 1), (1, 1)), ((((3, 1), 0),), (((2, 1), 0),)))

    def test_written_ties(self):
        # The order costs just what it spares, so nothing is ordered.
        self.ask((1, 0, 3, 2, 0, 0, 5, 0, 0), ((0, 1),), ((((5, 1), 0), ((0, 1), 1)),))
        self.ask((1, 0, 3, 2, 0, 0, 6, 0, 0), ((0, 1),), ((((5, 1), 1), ((0, 1), 1)),))
        # Each level from 1 on spares alike, and pieces cost nothing: the least is told.
        self.ask((3, 0, 1, 0, 0, 0, 9, 0, 0), ((0, 1),), ((((1, 1), 1), ((0, 1), 1), ((0, 1), 2), ((0, 1), 3)),))
        # Pieces bring just what they cost.
        self.ask((2, 0, 0, 4, 0, 0, 0, 4, 0), ((1,),), ((((0, 1), 0), ((-4, 1), 1), ((-8, 1), 2)),))
        self.ask((2, 0, 0, 4, 0, 0, 0, 5, 0), ((1,),), ((((-2, 1), 2), ((-6, 1), 2), ((-10, 1), 2)),))

    def test_nothing_costs_anything(self):
        for top, depth in ((0, 0), (3, 0), (0, 3), (2, 2), (39, 0), (20, 19)):
            day = tuple([((0, 1), stock) for stock in range(-depth, top + 1)])
            self.ask((top, depth) + (0,) * 7, ((1, 2, 3), (0, 1)), (day, day))

    def test_thrown_tables(self):
        dice = Dice(1)
        for _ in range(250):
            shop, falls = thrown_shop(dice, 8, dice.pick((3, 50, MILLION))), thrown_falls(dice, 4, 5)
            self.ask(shop, falls, table_by_hand(shop, falls))

    def test_thrown_tables_with_ties(self):
        dice = Dice(2)
        ties = 0
        for _ in range(250):
            shop = (dice.throw(0, 4), dice.throw(0, 3)) + tuple([dice.throw(0, 2) for _ in range(7)])
            falls = tuple([dice.pick(((1,), (0, 1), (1, 1), (1, 0, 1), (2, 1, 1))) for _ in range(dice.throw(1, 3))])
            self.ask(shop, falls, table_by_hand(shop, falls))
            ties += len([stock for stock in all_stocks(shop) if len(cheapest_levels(shop, falls, 0, stock)) > 1])
        self.assertGreater(ties, 100)

    def test_top_and_depth_together_39(self):
        dice = Dice(3)
        for top in (0, 1, 20, 38, 39):
            shop = (top, 39 - top, 400, 7, 3, 19, 90, 5, 11)
            falls = thrown_falls(dice, 2, 8)
            self.ask(shop, falls, table_by_hand(shop, falls))

    def test_six_days_of_eight_falls(self):
        dice = Dice(4)
        falls = great_falls(dice)
        for shop in (SHOP, (4, 6, 30, 7, 3, 19, 90, 5, 11), WIDE):
            self.ask(shop, falls, table_by_hand(shop, falls))

    def test_dearest(self):
        falls = great_falls(Dice(5))
        shop = (5, 2) + (MILLION,) * 7
        self.ask(shop, falls, table_by_hand(shop, falls))


class RuleIn(unittest.TestCase):
    def test_written_rules(self):
        table = ((((45, 4), 1), ((33, 4), 0), ((9, 4), 1), ((3, 2), 2)),
                 (((9, 1), 1), ((7, 2), 0), ((0, 1), 1), ((0, 1), 2)))
        told = told_unchanged(self, rule_in, table)
        self.assertEqual(told, ((1, 0, 1, 2), (1, 0, 1, 2)))
        self.assertEqual(repr(told), "((1, 0, 1, 2), (1, 0, 1, 2))")
        self.assertEqual(rule_in((table[1],)), ((1, 0, 1, 2),))

    def test_of_a_paper(self):
        paper = ((((7, 2), 2), ((0, 1), 2), ((0, 1), 2)), (((1, 1), 0), ((-1, 3), 1), ((2, 1), 2)))
        self.assertEqual(told_unchanged(self, rule_in, paper), ((2, 2, 2), (0, 1, 2)))

    def test_the_table_s_rule_costs_what_the_table_tells(self):
        dice = Dice(6)
        for _ in range(150):
            shop, falls = thrown_shop(dice, 10, dice.pick((3, 100))), thrown_falls(dice, 6, 8)
            self.look_at(shop, falls)
        self.look_at(WIDE, great_falls(dice))

    def look_at(self, shop, falls):
        table = least(shop, falls)
        rule = rule_in(table)
        self.assertIs(is_rule(shop, falls, rule), True)
        for t in range(len(falls)):
            for stock, (cost, level) in zip(all_stocks(shop), table[t]):
                with self.subTest(shop=shop, falls=falls, t=t, stock=stock):
                    self.assertEqual(cost_of(shop, falls[t:], rule[t:], stock), cost)


class NoneLess(unittest.TestCase):
    def test_no_rule_of_all_costs_less(self):
        dice = Dice(7)
        for _ in range(12):
            shop, falls = thrown_shop(dice, 2, dice.pick((3, 20))), thrown_falls(dice, 3, 3)
            table = least(shop, falls)
            best = {}
            for rule in product(all_levels(shop), repeat=len(falls)):
                for stock in all_stocks(shop):
                    cost = as_number(cost_of(shop, falls, rule, stock))
                    best[stock] = min(best.get(stock, cost), cost)
            with self.subTest(shop=shop, falls=falls):
                self.assertEqual([as_share(best[stock]) for stock in all_stocks(shop)],
                                 [cost for cost, level in table[0]])

    def test_no_thrown_rule_costs_less(self):
        dice = Dice(8)
        for _ in range(60):
            shop, falls = thrown_shop(dice, 8, 30), thrown_falls(dice, 5, 5)
            table = least(shop, falls)
            rule = rule_in(table)
            for _ in range(8):
                # Another rule, or the table's own with one level changed.
                other = thrown_rule(dice, shop, falls)
                t, at = dice.throw(0, len(falls) - 1), dice.throw(0, shop[0] + shop[1])
                near = put(rule, t, put(rule[t], at, dice.throw(at - shop[1], shop[0])))
                for stock, (cost, level) in zip(all_stocks(shop), table[0]):
                    self.assertGreaterEqual(as_number(cost_of(shop, falls, other, stock)), as_number(cost))
                    self.assertGreaterEqual(as_number(cost_of(shop, falls, near, stock)), as_number(cost))

    def test_each_lesser_level_costs_more(self):
        dice = Dice(9)
        for _ in range(60):
            shop, falls = thrown_shop(dice, 6, dice.pick((2, 30))), thrown_falls(dice, 3, 4)
            table = least(shop, falls)
            rule = rule_in(table)
            for at, (cost, level) in enumerate(table[0]):
                stock = at - shop[1]
                for other in range(stock, shop[0] + 1):
                    begun = as_number(cost_of(shop, falls, put(rule, 0, put(rule[0], at, other)), stock))
                    if other < level:
                        self.assertGreater(begun, as_number(cost))
                    else:
                        self.assertGreaterEqual(begun, as_number(cost))

    def test_none_that_looks_back_costs_less(self):
        dice = Dice(10)
        for _ in range(60):
            shop, falls = thrown_shop(dice, 4, 20), thrown_falls(dice, 3, 3)
            costs = costs_of(shop, falls)
            for stock in all_stocks(shop):
                chosen = {}

                def choose(t, now, past):
                    if past not in chosen:
                        chosen[past] = dice.throw(now, shop[0])
                    return chosen[past]

                for _ in range(3):
                    chosen.clear()
                    self.assertGreaterEqual(cost_by_rows(shop, falls, choose, stock), costs[stock + shop[1]])

    def test_the_best_of_all_that_look_back_costs_as_much(self):
        def best_from(shop, falls, stock, past):
            # All that was before is kept, and the best level is sought for each past by itself.
            if not falls:
                return Fraction(ended(shop, stock))
            costs = []
            for level in range(stock, shop[0] + 1):
                cost = Fraction(ordered(shop, stock, level))
                for fall, likely in chances(falls[0]):
                    after, paid = fallen(shop, level, fall)
                    cost += likely * (paid + best_from(shop, falls[1:], after, past + ((stock, level, fall),)))
                costs.append(cost)
            return min(costs)

        dice = Dice(11)
        for _ in range(30):
            shop, falls = thrown_shop(dice, 3, 20), thrown_falls(dice, 3, 3)
            for stock, cost in zip(all_stocks(shop), costs_of(shop, falls)):
                self.assertEqual(best_from(shop, falls, stock, ()), cost)


class BesideOneAnother(unittest.TestCase):
    def test_both_shops_prices_added(self):
        dice = Dice(12)
        unlike = 0
        for _ in range(150):
            shop, falls = thrown_shop(dice, 8, 50), thrown_falls(dice, 4, 5)
            other = shop[:2] + thrown_shop(dice, 8, 50)[2:]
            added = shop[:2] + tuple([one + more for one, more in zip(shop[2:], other[2:])])
            for t in range(len(falls)):
                parts = zip(costs_of(shop, falls, t), costs_of(other, falls, t), costs_of(added, falls, t))
                for one, more, both in parts:
                    self.assertGreaterEqual(both, one + more)
                    unlike += both > one + more
        self.assertGreater(unlike, 50)

    def test_a_greater_top(self):
        dice = Dice(13)
        for _ in range(150):
            shop, falls = thrown_shop(dice, 8, 50), thrown_falls(dice, 4, 5)
            greater = (shop[0] + dice.throw(1, 3),) + shop[1:]
            for t in range(len(falls)):
                for cost, other in zip(costs_of(shop, falls, t), costs_of(greater, falls, t)):
                    self.assertLessEqual(other, cost)

    def test_a_greater_price(self):
        dice = Dice(14)
        for _ in range(100):
            shop, falls = thrown_shop(dice, 8, 50), thrown_falls(dice, 4, 5)
            for at in (2, 3, 4, 5, 6, 8):
                greater = put(shop, at, shop[at] + dice.throw(1, 30))
                for t in range(len(falls)):
                    for cost, other in zip(costs_of(shop, falls, t), costs_of(greater, falls, t)):
                        self.assertGreaterEqual(other, cost)

    def test_all_prices_so_many_times_greater(self):
        dice = Dice(15)
        for many in (0, 1, 2, 3, 7, 1000):
            for _ in range(20):
                shop, falls = thrown_shop(dice, 8, 50), thrown_falls(dice, 4, 5)
                greater = shop[:2] + tuple([price * many for price in shop[2:]])
                told = least(greater, falls)
                for day, wanted in zip(told, least(shop, falls)):
                    for stock, (cost, level), (one, own) in zip(all_stocks(shop), day, wanted):
                        self.assertEqual(cost, as_share(as_number(one) * many))
                        self.assertEqual(level, own if many else stock)

    def test_the_days_behind_are_a_table_by_themselves(self):
        dice = Dice(16)
        for _ in range(40):
            shop, falls = thrown_shop(dice, 8, 50), thrown_falls(dice, 5, 5)
            for t in range(len(falls)):
                self.assertEqual(least(shop, falls[t:]), least(shop, falls)[t:])


if __name__ == "__main__":
    unittest.main()
