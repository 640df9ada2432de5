import unittest
from fractions import Fraction

from brute import (
    Dice, all_stocks, as_share, chances, cost_by_rule, ended, fallen, ordered, thrown_falls, thrown_rule, thrown_shop,
)
from things import NO_WHOLES, OTHERS, assert_truth, put, told_unchanged
from twomarks.rules import cost_of, is_rule

GREAT = 10 ** 200 - 1
# Stocks from -1 to 2.
SHOP = (2, 1, 5, 2, 1, 4, 10, 1, 3)
FALLS = ((1, 1), (3, 0, 1))
STAYING = ((-1, 0, 1, 2), (-1, 0, 1, 2))
FILLING = ((2, 2, 2, 2), (2, 2, 2, 2))
MIXED = ((1, 0, 2, 2), (-1, 2, 1, 2))
RULES = (STAYING, FILLING, MIXED)
EIGHT = (3, 0, 7, 1, 1000, 0, 2, 5)
WIDE = (20, 19, 999999, 7, 13, 101, 5003, 11, 17)


def by_days(shop, falls, rule, stock):
    """The rule's cost, reckoned from the last day back, as a Fraction."""
    ahead = {now: ended(shop, now) for now in all_stocks(shop)}
    for day, levels in zip(falls[::-1], rule[::-1]):
        costs = {}
        for now, level in zip(all_stocks(shop), levels):
            costs[now] = ordered(shop, now, level)
            for fall, likely in chances(day):
                after, cost = fallen(shop, level, fall)
                costs[now] += likely * (cost + ahead[after])
        ahead = costs
    return ahead[stock]


class IsRule(unittest.TestCase):
    def ask(self, thing, wanted, shop=SHOP, falls=FALLS):
        with self.subTest(repr(thing)[:100]):
            assert_truth(self, told_unchanged(self, is_rule, shop, falls, thing), wanted)

    def test_rules_that_fit(self):
        for rule in RULES:
            self.ask(rule, True)
        self.ask(((0,),), True, (0, 0, 1, 1, 1, 1, 1, 1, 1), ((1,),))
        self.ask((tuple(range(-19, 21)),) * 6, True, WIDE, (EIGHT,) * 6)
        self.ask(((20,) * 40,) * 6, True, WIDE, (EIGHT,) * 6)

    def test_each_level_from_its_stock_to_top(self):
        for rule in RULES:
            for t in range(2):
                for at in range(4):
                    for level in (-GREAT, -3, -2, -1, 0, 1, 2, 3, 4, 7, GREAT):
                        self.ask(put(rule, t, put(rule[t], at, level)), at - 1 <= level <= 2)

    def test_thrown_rules(self):
        dice = Dice(1)
        for _ in range(100):
            shop, falls = thrown_shop(dice, 9, 9), thrown_falls(dice, 4, 4)
            rule = thrown_rule(dice, shop, falls)
            self.ask(rule, True, shop, falls)
            t, at = dice.throw(0, len(falls) - 1), dice.throw(0, shop[0] + shop[1])
            self.ask(put(rule, t, put(rule[t], at, at - shop[1] - 1)), False, shop, falls)
            self.ask(put(rule, t, put(rule[t], at, shop[0] + 1)), False, shop, falls)
            self.ask(put(rule, t, rule[t][:at] + rule[t][at + 1:]), False, shop, falls)

    def test_a_part_left_out_or_twice_or_put_in(self):
        for rule in RULES:
            for t in range(2):
                self.ask(rule[:t] + rule[t + 1:], False)
                self.ask(rule[:t] + (rule[t],) + rule[t:], False)
                self.ask(put(rule, t, ()), False)
                for at in range(4):
                    levels = rule[t]
                    self.ask(put(rule, t, levels[:at] + levels[at + 1:]), False)
                    self.ask(put(rule, t, levels[:at] + (levels[at],) + levels[at:]), False)
                self.ask(put(rule, t, rule[t] + (2,)), False)
                self.ask(put(rule, t, (-1,) + rule[t]), False)
            self.ask((), False)
            self.ask(rule + ((),), False)
            self.ask(((),) + rule, False)

    def test_parts_exchanged(self):
        self.ask(MIXED[::-1], True)
        self.ask(STAYING[::-1], True)
        for at in range(4):
            for other in range(at):
                levels = list(STAYING[0])
                levels[at], levels[other] = levels[other], levels[at]
                self.ask((tuple(levels), STAYING[1]), False)
                self.ask((STAYING[0], tuple(levels)), False)
        self.ask(((0, 1, 1, 2), (1, 0, 1, 2)), True)
        self.ask(((1, 0, 1, 2), (0, 1, 1, 2)), True)

    def test_a_list_for_a_tuple(self):
        for rule in RULES:
            self.ask(list(rule), False)
            self.ask([list(levels) for levels in rule], False)
            self.ask(tuple([list(levels) for levels in rule]), False)
            for t in range(2):
                self.ask(put(rule, t, list(rule[t])), False)
                self.ask(put(rule, t, dict(enumerate(rule[t]))), False)
                self.ask(put(rule, t, (rule[t],)), False)
            self.ask((rule,), False)
            self.ask(dict(enumerate(rule)), False)

    def test_other_things_in_the_place_of_a_level(self):
        for t in range(2):
            for at in range(4):
                for thing in NO_WHOLES:
                    self.ask(put(FILLING, t, put(FILLING[t], at, thing)), False)
                    self.ask(put(MIXED, t, put(MIXED[t], at, thing)), False)

    def test_truths_where_the_like_number_fits(self):
        one = (1, 1, 0, 0, 0, 0, 0, 0, 0)
        self.ask(((1, 1, 1),), True, one, ((1,),))
        self.ask(((0, 0, 1),), True, one, ((1,),))
        for at in range(3):
            self.ask((put((1, 1, 1), at, True),), False, one, ((1,),))
        self.ask(((False, 0, 1),), False, one, ((1,),))
        self.ask(((0, False, 1),), False, one, ((1,),))

    def test_other_things_in_the_place_of_a_day(self):
        for t in range(2):
            for thing in NO_WHOLES + OTHERS:
                self.ask(put(MIXED, t, thing), False)

    def test_another_number_of_days(self):
        for days in range(8):
            for asked in range(1, 7):
                self.ask((MIXED[0],) * days, days == asked, SHOP, ((1, 1),) * asked)

    def test_another_shop(self):
        self.ask(MIXED, False, (3, 1) + SHOP[2:])
        self.ask(MIXED, False, (1, 1) + SHOP[2:])
        self.ask(MIXED, False, (2, 2) + SHOP[2:])
        self.ask(MIXED, False, (2, 0) + SHOP[2:])
        # As many stocks, but other ones.
        self.ask(STAYING, False, (3, 0) + SHOP[2:])
        self.ask(FILLING, False, (1, 2) + SHOP[2:])
        self.ask(FILLING, False, (3, 0) + SHOP[2:])
        self.ask(((2, 2, 2, 3),) * 2, True, (3, 0) + SHOP[2:])
        self.ask(STAYING, False, (1, 2) + SHOP[2:])

    def test_other_things(self):
        for thing in OTHERS + NO_WHOLES:
            self.ask(thing, False)
            self.ask(thing, False, (1, 0) + SHOP[2:], ((1,),))
        self.ask(0, False, (0, 0) + SHOP[2:], ((1,),))
        self.ask((0,), False, (0, 0) + SHOP[2:], ((1,),))
        self.ask(((0,),), True, (0, 0) + SHOP[2:], ((1,),))
        self.ask((((0,),),), False, (0, 0) + SHOP[2:], ((1,),))


class CostOf(unittest.TestCase):
    def ask(self, shop, falls, rule, stock, wanted):
        with self.subTest(shop=shop, falls=falls, rule=rule, stock=stock):
            told = told_unchanged(self, cost_of, shop, falls, rule, stock)
            self.assertIs(type(told), tuple)
            self.assertEqual([type(part) for part in told], [int, int])
            self.assertEqual(told, wanted)

    def test_written_costs(self):
        # One day, a fall of 0 or 1 alike: level -1 costs 12, level 0 7/2, levels 1 and 2 nothing.
        for stock, level, cost in ((-1, -1, (12, 1)), (-1, 0, (21, 2)), (-1, 1, (9, 1)), (-1, 2, (11, 1)),
                                   (0, 0, (7, 2)), (0, 1, (7, 1)), (0, 2, (9, 1)), (1, 1, (0, 1)), (1, 2, (7, 1)),
                                   (2, 2, (0, 1))):
            self.ask(SHOP, ((1, 1),), (put(STAYING[0], stock + 1, level),), stock, cost)

    def test_written_costs_of_two_days(self):
        rule = ((1, 0, 1, 2), (1, 0, 1, 2))
        for stock, cost in ((-1, (45, 4)), (0, (33, 4)), (1, (9, 4)), (2, (3, 2))):
            self.ask(SHOP, ((1, 1), (1, 1)), rule, stock, cost)

    def test_the_end_is_counted(self):
        still = ((-1, 0, 1, 2),)
        for stock, cost in ((-1, (7, 1)), (0, (0, 1)), (1, (0, 1)), (2, (0, 1))):
            self.ask(SHOP, ((1,),), still, stock, cost)
        dear = SHOP[:7] + (30, 50)
        for stock, cost in ((-1, (54, 1)), (0, (0, 1)), (1, (-29, 1)), (2, (-58, 1))):
            self.ask(dear, ((1,),), still, stock, cost)

    def test_lowest_terms(self):
        shop = (3, 0, 0, 6, 0, 0, 0, 0, 0)
        self.ask(shop, ((2, 2, 2),), ((2, 1, 2, 3),), 0, (12, 1))
        self.ask((3, 0, 0, 0, 6, 0, 0, 0, 0), ((2, 2),), ((3, 1, 2, 3),), 0, (15, 1))
        self.ask((3, 0, 0, 0, 3, 0, 0, 0, 0), ((2, 2),), ((3, 1, 2, 3),), 0, (15, 2))
        self.ask((1, 0, 0, 0, 0, 0, 0, 6, 0), ((6, 4),), ((0, 1),), 1, (-18, 5))
        self.ask((1, 0, 0, 0, 0, 0, 0, 0, 0), ((6, 4),), ((0, 1),), 1, (0, 1))

    def test_all_rows_by_thrown_rules(self):
        dice = Dice(2)
        for _ in range(150):
            shop, falls = thrown_shop(dice, 7, 1000), thrown_falls(dice, 3, 4)
            rule = thrown_rule(dice, shop, falls)
            for stock in {-shop[1], shop[0], dice.throw(-shop[1], shop[0])}:
                self.ask(shop, falls, rule, stock, as_share(cost_by_rule(shop, falls, rule, stock)))

    def test_weights_of_nought(self):
        for falls in (((0, 5, 0), (0, 0, 7)), ((0, 5), (0, 0, 7, 0)), ((0, 1, 0, 0, 0, 0, 0, 0), (0, 0, 1))):
            for rule in RULES:
                for stock in (-1, 0, 1, 2):
                    self.ask(SHOP, falls, rule, stock, as_share(cost_by_rule(SHOP, falls, rule, stock)))
                    self.ask(SHOP, falls, rule, stock, cost_of(SHOP, ((0, 1), (0, 0, 1)), rule, stock))

    def test_six_days_of_eight_falls(self):
        dice = Dice(3)
        falls = tuple([tuple([dice.throw(1, 1000) for _ in range(8)]) for _ in range(6)])
        for shop in (WIDE, (39, 0) + WIDE[2:], (0, 39) + WIDE[2:], SHOP):
            rule = thrown_rule(dice, shop, falls)
            for stock in (-shop[1], 0, shop[0]):
                self.ask(shop, falls, rule, stock, as_share(by_days(shop, falls, rule, stock)))

    def test_days_by_days_are_rows_by_rows(self):
        dice = Dice(4)
        for _ in range(20):
            shop, falls = thrown_shop(dice, 5, 100), thrown_falls(dice, 3, 3)
            rule = thrown_rule(dice, shop, falls)
            self.assertEqual(by_days(shop, falls, rule, 0), cost_by_rule(shop, falls, rule, 0))

    def test_all_prices_so_many_times_greater(self):
        dice = Dice(5)
        for _ in range(30):
            shop, falls = thrown_shop(dice, 6, 100), thrown_falls(dice, 3, 4)
            rule = thrown_rule(dice, shop, falls)
            many = dice.throw(0, 50)
            greater = shop[:2] + tuple([price * many for price in shop[2:]])
            for stock in all_stocks(shop):
                top, bottom = cost_of(shop, falls, rule, stock)
                self.assertEqual(cost_of(greater, falls, rule, stock), as_share(Fraction(top * many, bottom)))


if __name__ == "__main__":
    unittest.main()
