import unittest
from fractions import Fraction
from itertools import product

from brute import (
    Dice, all_stocks, as_number, as_share, chances, cheapest_cost, cheapest_levels, cost_by_rule, ended, fallen,
    ordered, thrown_falls, thrown_shop,
)
from things import NO_WHOLES, OTHERS, assert_truth, put, told_unchanged
from twomarks.checker import lets
from twomarks.table import least, rule_in

GREAT = 10 ** 200 - 1
# Stocks from -1 to 2.
SHOP = (2, 1, 5, 2, 1, 4, 10, 1, 3)
FALLS = ((1, 1), (1, 1))
PAPER = ((((45, 4), 1), ((33, 4), 0), ((9, 4), 1), ((3, 2), 2)),
         (((9, 1), 1), ((7, 2), 0), ((0, 1), 1), ((0, 1), 2)))
WIDE = (20, 19, 999999, 7, 13, 101, 5003, 11, 17)


def put_entry(paper, t, at, entry):
    return put(paper, t, put(paper[t], at, entry))


def reckoned(shop, day, stock, level, ahead):
    """What the level costs from the stock, where ahead tells each stock's cost on the next day."""
    cost = Fraction(ordered(shop, stock, level))
    for fall, likely in chances(day):
        after, paid = fallen(shop, level, fall)
        cost += likely * (paid + ahead[after])
    return cost


def put_together(shop, falls, paper, t):
    """The paper with the days ahead of t made anew, each the cheapest by the costs of the day behind it."""
    for now in reversed(range(t)):
        ahead = {stock: as_number(cost) for stock, (cost, level) in zip(all_stocks(shop), paper[now + 1])}
        entries = []
        for stock in all_stocks(shop):
            cost, level = min([(reckoned(shop, falls[now], stock, level, ahead), level)
                               for level in range(stock, shop[0] + 1)])
            entries.append((as_share(cost), level))
        paper = put(paper, now, tuple(entries))
    return paper


class LetsBy(unittest.TestCase):
    def ask(self, thing, wanted, shop=SHOP, falls=FALLS):
        with self.subTest(thing=repr(thing)[:200], shop=shop, falls=falls):
            assert_truth(self, told_unchanged(self, lets, shop, falls, thing), wanted)

    def test_written_papers(self):
        self.ask(PAPER, True)
        self.ask(PAPER[1:], True, SHOP, FALLS[1:])
        self.ask(((((3, 1), 0),), (((2, 1), 0),)), True, (0, 0, 9, 9, 9, 9, 4, 9, 9), ((3, 1), (1, 1)))

    def test_told_tables(self):
        dice = Dice(1)
        for _ in range(150):
            shop, falls = thrown_shop(dice, 10, dice.pick((3, 1000))), thrown_falls(dice, 6, 8)
            self.ask(least(shop, falls), True, shop, falls)

    def test_the_greatest_tables(self):
        dice = Dice(2)
        falls = tuple([tuple([dice.throw(1, 1000) for _ in range(8)]) for _ in range(6)])
        for shop in (WIDE, (39, 0) + WIDE[2:], (0, 39) + WIDE[2:]):
            table = least(shop, falls)
            self.ask(table, True, shop, falls)
            for t in range(6):
                (top, bottom), level = table[t][17]
                self.ask(put_entry(table, t, 17, (as_share(Fraction(top + 1, bottom)), level)), False, shop, falls)

    def test_other_levels_that_cost_as_much(self):
        # The order costs just what it spares, and each level from 1 on spares alike.
        shop, falls = (3, 0, 9, 0, 0, 0, 9, 0, 0), ((0, 1),)
        for levels in product(range(0, 4), range(1, 4), range(2, 4), range(3, 4)):
            cheap = levels[0] in (0, 1, 2, 3) and levels[1:] == (1, 2, 3)
            paper = tuple([((cost, 1), level) for cost, level in zip((9, 0, 0, 0), levels)])
            self.ask((paper,), cheap, shop, falls)

    def test_each_choice_of_levels(self):
        dice = Dice(3)
        let_by = others = 0
        for _ in range(60):
            shop = (dice.throw(0, 2), dice.throw(0, 1)) + tuple([dice.throw(0, 2) for _ in range(7)])
            falls = tuple([dice.pick(((1,), (0, 1), (1, 1), (1, 0, 1))) for _ in range(dice.throw(1, 2))])
            table = least(shop, falls)
            choices = [range(stock, shop[0] + 1) for stock in all_stocks(shop)] * len(falls)
            cheap = [cheapest_levels(shop, falls, t, stock) for t in range(len(falls)) for stock in all_stocks(shop)]
            many = len(all_stocks(shop))
            for levels in list(product(*choices))[::7] + list(product(*cheap))[:20]:
                days = [levels[t * many:(t + 1) * many] for t in range(len(falls))]
                wanted = all([level in cheapest_levels(shop, falls, t, stock)
                              for t, day in enumerate(days) for stock, level in zip(all_stocks(shop), day)])
                paper = tuple([tuple([(cost, level) for (cost, own), level in zip(entries, day)])
                               for entries, day in zip(table, days)])
                self.ask(paper, wanted, shop, falls)
                let_by += wanted and paper != table
                others += not wanted
                if wanted:
                    for stock, (cost, level) in zip(all_stocks(shop), paper[0]):
                        self.assertEqual(as_share(cost_by_rule(shop, falls, rule_in(paper), stock)), cost)
        self.assertGreater(let_by, 50)
        self.assertGreater(others, 50)

    def test_a_cost_a_little_more_or_less(self):
        little = (Fraction(1), Fraction(1, 2), Fraction(1, 4), Fraction(1, 1000), Fraction(1, 10 ** 190),
                  Fraction(10 ** 190))
        for shop, falls in ((SHOP, FALLS), (SHOP, FALLS * 3), ((1, 1, 3, 1, 2, 5, 9, 1, 4), ((2, 1), (1, 0, 1), (1,)))):
            table = least(shop, falls)
            for t in range(len(falls)):
                for at in range(len(table[t])):
                    cost, level = table[t][at]
                    for more in little + tuple([-one for one in little]):
                        paper = put_entry(table, t, at, (as_share(as_number(cost) + more), level))
                        self.ask(paper, False, shop, falls)
                        self.ask(put_together(shop, falls, paper, t), False, shop, falls)

    def test_all_costs_more_or_less_by_one_number(self):
        for more in (1, -1, 1000, -1000):
            paper = tuple([tuple([(as_share(as_number(cost) + more), level) for cost, level in day]) for day in PAPER])
            self.ask(paper, False)
            self.ask((paper[0], PAPER[1]), False)
            self.ask((PAPER[0], paper[1]), False)

    def test_a_level_that_costs_more(self):
        dice = Dice(4)
        for _ in range(60):
            shop, falls = thrown_shop(dice, 5, 50), thrown_falls(dice, 4, 4)
            table = least(shop, falls)
            t = dice.throw(0, len(falls) - 1)
            for at, (cost, level) in enumerate(table[t]):
                stock = at - shop[1]
                cheap = cheapest_levels(shop, falls, t, stock)
                ahead = {after: cheapest_cost(shop, falls, t + 1, after) for after in all_stocks(shop)}
                for other in range(stock, shop[0] + 1):
                    self.ask(put_entry(table, t, at, (cost, other)), other in cheap, shop, falls)
                    # The level's own cost, and the days ahead of it by that one.
                    dear = as_share(reckoned(shop, falls[t], stock, other, ahead))
                    paper = put_entry(table, t, at, (dear, other))
                    self.ask(paper, other in cheap, shop, falls)
                    self.ask(put_together(shop, falls, paper, t), other in cheap, shop, falls)

    def test_nothing_is_ever_ordered(self):
        # All costs are those of their levels, but others are cheaper.
        falls = ((1, 1),)
        ahead = {stock: ended(SHOP, stock) for stock in all_stocks(SHOP)}
        for levels, wanted in (((-1, 0, 1, 2), False), ((2, 2, 2, 2), False), ((0, 0, 1, 2), False),
                               ((1, 1, 1, 2), False), ((1, 0, 2, 2), False), ((1, 0, 1, 2), True)):
            paper = tuple([(as_share(reckoned(SHOP, falls[0], stock, level, ahead)), level)
                           for stock, level in zip(all_stocks(SHOP), levels)])
            self.ask((paper,), wanted, SHOP, falls)

    def test_a_cost_that_is_no_share(self):
        for t in range(2):
            for at in range(4):
                (top, bottom), level = PAPER[t][at]
                wrong = [(top * many, bottom * many) for many in (2, 3, -1, 0, 10 ** 100)]
                wrong += [(top, 0), (top, -bottom), (-top, -bottom), (1, 0), (0, 0), (top,), (top, bottom, 1), (bottom,),
                          [top, bottom], (str(top), bottom), (top, str(bottom)), f"{top}/{bottom}", top, (), None, True,
                          (None, bottom), (top, None), ((top, bottom),), (top, True), (top, [bottom]), ((top,), bottom)]
                for cost in wrong:
                    self.ask(put_entry(PAPER, t, at, (cost, level)), False)

    def test_truths_in_the_place_of_like_numbers(self):
        shop, falls = (1, 0, 1, 0, 0, 0, 1, 0, 0), ((0, 1),)
        self.ask(((((1, 1), 0), ((0, 1), 1)),), True, shop, falls)
        self.ask(((((1, 1), 1), ((0, 1), 1)),), True, shop, falls)
        for paper in ((((True, 1), 0), ((0, 1), 1)), (((1, True), 0), ((0, 1), 1)), (((1, 1), False), ((0, 1), 1)),
                      (((1, 1), True), ((0, 1), 1)), (((1, 1), 0), ((False, 1), 1)), (((1, 1), 0), ((0, True), 1)),
                      (((1, 1), 0), ((0, 1), True))):
            self.ask((paper,), False, shop, falls)

    def test_days_and_stocks_exchanged(self):
        self.ask(PAPER[::-1], False)
        for t in range(2):
            for at in range(4):
                for other in range(at):
                    entries = list(PAPER[t])
                    entries[at], entries[other] = entries[other], entries[at]
                    self.ask(put(PAPER, t, tuple(entries)), False)
                    costs = list(PAPER[t])
                    costs[at], costs[other] = (PAPER[t][other][0], PAPER[t][at][1]), (PAPER[t][at][0], PAPER[t][other][1])
                    self.ask(put(PAPER, t, tuple(costs)), PAPER[t][at][0] == PAPER[t][other][0])

    def test_days_that_are_unlike_exchanged(self):
        falls = ((1, 1), (0, 1), (3, 1))
        table = least(SHOP, falls)
        self.ask(table, True, SHOP, falls)
        for days in ((1, 0, 2), (0, 2, 1), (2, 1, 0), (1, 2, 0), (2, 0, 1), (0, 0, 2), (2, 2, 2)):
            self.ask(tuple([table[t] for t in days]), False, SHOP, falls)

    def test_another_shop_s_paper(self):
        for at in range(9):
            for more in (1, -1):
                other = put(SHOP, at, SHOP[at] + more)
                paper = least(other, FALLS)
                self.ask(paper, paper == PAPER, SHOP, FALLS)
                self.ask(PAPER, paper == PAPER, other, FALLS)
                self.ask(paper, True, other, FALLS)

    def test_other_falls(self):
        self.ask(PAPER, True, SHOP, ((7, 7), (500, 500, 0)))
        for falls in (((1, 2), (1, 1)), ((1, 1), (1, 2)), ((1, 1), (0, 1, 1)), ((1, 1),), ((1, 1),) * 3):
            self.ask(PAPER, False, SHOP, falls)

    def test_too_many_or_too_few(self):
        self.ask((), False)
        self.ask(((), ()), False)
        self.ask(PAPER + (PAPER[1],), False)
        self.ask((PAPER[0],) + PAPER, False)
        self.ask(PAPER + ((),), False)
        for t in range(2):
            self.ask(PAPER[:t] + PAPER[t + 1:], False)
            self.ask(put(PAPER, t, ()), False)
            self.ask(put(PAPER, t, PAPER[t] + (PAPER[t][3],)), False)
            self.ask(put(PAPER, t, PAPER[t] + (((0, 1), 3),)), False)
            self.ask(put(PAPER, t, (PAPER[t][0],) + PAPER[t]), False)
            for at in range(4):
                self.ask(put(PAPER, t, PAPER[t][:at] + PAPER[t][at + 1:]), False)
                cost, level = PAPER[t][at]
                for entry in ((cost,), (level,), (level, cost), (cost, level, level), (cost, level, None), (), cost,
                              ((cost, level),), cost + (level,)):
                    self.ask(put_entry(PAPER, t, at, entry), False)

    def test_lists_for_tuples(self):
        self.ask(list(PAPER), False)
        self.ask([[[list(cost), level] for cost, level in day] for day in PAPER], False)
        for t in range(2):
            self.ask(put(PAPER, t, list(PAPER[t])), False)
            self.ask(put(PAPER, t, dict(enumerate(PAPER[t]))), False)
            for at in range(4):
                cost, level = PAPER[t][at]
                self.ask(put_entry(PAPER, t, at, [cost, level]), False)
                self.ask(put_entry(PAPER, t, at, (list(cost), level)), False)
                self.ask(put_entry(PAPER, t, at, (cost, [level])), False)
                self.ask(put_entry(PAPER, t, at, {cost: level}), False)

    def test_levels_beside_the_stocks(self):
        for t in range(2):
            for at in range(4):
                cost, level = PAPER[t][at]
                for other in (at - 2, 3, 4, -5, 40, GREAT, -GREAT):
                    self.ask(put_entry(PAPER, t, at, (cost, other)), False)

    def test_other_things_at_any_depth(self):
        for thing in NO_WHOLES + OTHERS:
            self.ask(thing, False)
            for t in range(2):
                self.ask(put(PAPER, t, thing), False)
                for at in range(4):
                    (top, bottom), level = PAPER[t][at]
                    self.ask(put_entry(PAPER, t, at, thing), False)
                    fits = thing == (top, bottom) and type(thing) is tuple
                    self.ask(put_entry(PAPER, t, at, (thing, level)), fits)
                    if type(thing) is not int:
                        self.ask(put_entry(PAPER, t, at, ((top, bottom), thing)), False)
                        self.ask(put_entry(PAPER, t, at, ((thing, bottom), level)), False)
                        self.ask(put_entry(PAPER, t, at, ((top, thing), level)), False)

    def test_long_numbers(self):
        # Each cost another share of two hundred figures over as many.
        many = [10 ** 199 + 2 * at + 1 for at in range(240)]
        shop = WIDE
        falls = ((1, 2, 3, 4, 5, 6, 7, 8),) * 6
        paper = tuple([tuple([(as_share(Fraction(-many[t * 40 + at] - 2, many[t * 40 + at])), at - 19)
                              for at in range(40)]) for t in range(6)])
        self.ask(paper, False, shop, falls)
        self.ask(least(shop, falls)[:5] + paper[5:], False, shop, falls)
        self.ask(paper[:5] + least(shop, falls)[5:], False, shop, falls)


if __name__ == "__main__":
    unittest.main()
