import unittest
from fractions import Fraction
from itertools import product

from brute import (
    Dice, all_stands, as_number, as_share, cheapest_cost, cheapest_raises, double_by_hand, double_chances,
    double_cost, double_costs, ended, fallen, raise_by_hand, thrown_double, thrown_shop,
)
from things import NO_WHOLES, OTHERS, assert_truth, put, told_unchanged
from twomarks.double import is_double, least_double, lets_double
from twomarks.shares import is_share
from twomarks.table import least

GREAT = 10 ** 200 - 1
# Stocks from -1 to 1.
SHOP = (1, 1, 5, 2, 1, 4, 10, 1, 3)
DAY = ((1, 2), (3, 4))
DOUBLE = (DAY, ((0, 1, 2),))


def thrown_small(dice, reach=4):
    return thrown_shop(dice, reach, dice.pick((3, 30)))


def thrown_ties(dice, reach=3):
    top = dice.throw(1, reach)
    shop = (top, dice.throw(0, reach - top)) + tuple([dice.pick((0, 0, 1, 2)) for _ in range(7)])
    double = tuple([tuple([tuple([min(weight, 1) for weight in line]) for line in day])
                    for day in thrown_double(dice, 2)])
    return shop, double


def put_entry(paper, t, at, entry):
    return put(paper, t, put(paper[t], at, entry))


class IsDouble(unittest.TestCase):
    def ask(self, thing, wanted):
        with self.subTest(thing=repr(thing)[:200]):
            assert_truth(self, told_unchanged(self, is_double, thing), wanted)

    def test_double_falls(self):
        for thing in (DOUBLE, (DAY,), (DAY,) * 3, (((1,),),), (((1000,),),), (((0, 0, 1),),), (((0,), (0,), (1,)),),
                      (((1, 2, 3), (4, 5, 6), (7, 8, 9)),) * 3, (((1, 0), (0, 0)),), (((0, 0), (0, 1)),),
                      (((1000,) * 3,) * 3,), (((0, 0, 0), (0, 0, 0), (0, 0, 1)), ((1,),), ((1,), (0,)))):
            self.ask(thing, True)

    def test_all_forms(self):
        for rows, columns, days in product(range(5), range(5), range(5)):
            fits = 1 <= rows <= 3 and 1 <= columns <= 3 and 1 <= days <= 3
            self.ask(((((1,) * columns,) * rows),) * days, fits)
            # The days needn't be alike.
            self.ask((((2,),),) + ((((1,) * columns,) * rows),) * days,
                     days <= 2 and (days == 0 or 1 <= rows <= 3 and 1 <= columns <= 3))

    def test_lines_alike_long_within_the_day(self):
        for lengths in product(range(5), repeat=3):
            day = tuple([(1,) * length for length in lengths])
            fits = len(set(lengths)) == 1 and lengths[0] in (1, 2, 3)
            self.ask((day,), fits)
            self.ask((DAY, day), fits)
            self.ask((day[:2],), lengths[0] == lengths[1] and lengths[0] in (1, 2, 3))

    def test_weights_at_their_bounds(self):
        for t, i, j in ((0, 0, 0), (0, 0, 1), (0, 1, 0), (0, 1, 1)):
            for weight, fits in ((0, True), (1, True), (999, True), (1000, True), (1001, False), (-1, False),
                                 (GREAT, False), (-GREAT, False)):
                self.ask(put(DOUBLE, t, put(DAY, i, put(DAY[i], j, weight))), fits)

    def test_all_weights_of_a_day_nought(self):
        for rows, columns in product((1, 2, 3), repeat=2):
            nought = ((0,) * columns,) * rows
            self.ask((nought,), False)
            self.ask((nought, DAY), False)
            self.ask((DAY, nought), False)
            for i, j in product(range(rows), range(columns)):
                self.ask((DAY, put(nought, i, put(nought[i], j, 1))), True)
        # Weights that together are 0 are none the less below 0.
        self.ask((((1, -1),),), False)
        self.ask((((2, -1),),), False)

    def test_weights_of_another_kind(self):
        for thing in NO_WHOLES:
            for i, j in product((0, 1), repeat=2):
                self.ask((put(DAY, i, put(DAY[i], j, thing)),), False)

    def test_other_things(self):
        for thing in NO_WHOLES + OTHERS:
            self.ask(thing, False)
            self.ask((thing,), False)
            self.ask((DAY, thing), False)
            self.ask(((thing,),), repr(thing) in ("(1,)", "(0, 1)", "(1, 1)"))
            if thing != (0, 1) and thing != (1, 1) or type(thing) is not tuple:
                self.ask(((DAY[0], thing),), False)
                self.ask(((thing, DAY[1]),), False)

    def test_lists_for_tuples(self):
        self.ask([DAY], False)
        self.ask((list(DAY),), False)
        self.ask(((list(DAY[0]), DAY[1]),), False)
        self.ask(((DAY[0], list(DAY[1])),), False)
        self.ask([[[1]]], False)
        self.ask((dict(enumerate(DAY)),), False)
        self.ask(({0: 1},), False)

    def test_one_layer_more_or_less(self):
        self.ask(DAY, False)
        self.ask((DOUBLE,), False)
        self.ask(((1, 2), (3, 4)), False)
        self.ask((1, 2), False)
        self.ask((), False)
        self.ask(((),), False)
        self.ask((((),),), False)


class LeastDouble(unittest.TestCase):
    def ask(self, shop, double, wanted=None):
        with self.subTest(shop=shop, double=double):
            told = told_unchanged(self, least_double, shop, double)
            wanted = wanted or double_by_hand(shop, double)
            self.assertEqual(repr(told), repr(wanted))
            return told

    def test_written_tables(self):
        self.ask((0, 0, 9, 9, 9, 9, 6, 9, 9), (((1, 1),),), ((((3, 1), (0, 0)),),))
        self.ask((0, 0, 9, 9, 9, 9, 6, 9, 9), (((0, 0), (0, 1)), ((1,),)),
                 ((((12, 1), (0, 0)),), (((0, 1), (0, 0)),)))
        # Each store wants one: it is bought for 2, the order for 5, or lost for 7. One alone costs as much as to
        # lose it, both are cheaper together.
        self.ask((1, 0, 5, 2, 0, 0, 7, 0, 0), (((0, 0), (0, 1)),),
                 ((((9, 1), (1, 1)), ((7, 1), (0, 1)), ((7, 1), (1, 0)), ((0, 1), (1, 1))),))
        self.ask((1, 0, 5, 2, 0, 0, 8, 0, 0), (((0, 0), (0, 1)),),
                 ((((9, 1), (1, 1)), ((7, 1), (1, 1)), ((7, 1), (1, 1)), ((0, 1), (1, 1))),))
        # The first store alone wants one.
        self.ask((1, 0, 0, 2, 0, 0, 7, 0, 0), (((0,), (1,)),),
                 ((((2, 1), (1, 0)), ((2, 1), (1, 1)), ((0, 1), (1, 0)), ((0, 1), (1, 1))),))

    def test_the_least_raise_of_those_that_cost_alike(self):
        # One order for 5 spares just 5, whichever store is raised; both cost no more.
        shop = (1, 0, 5, 0, 0, 0, 5, 0, 0)
        table = self.ask(shop, (((0, 1), (1, 0)),))
        self.assertEqual(table[0][0], ((5, 1), (0, 0)))
        # Where the order is dearer than one loss and cheaper than two: (0, 0), (1, 1).
        table = self.ask(shop, (((0, 0), (0, 1)),))
        self.assertEqual(table[0][0], ((5, 1), (1, 1)))
        # Any raise costs nothing.
        table = self.ask((2, 2) + (0,) * 7, (((1, 1), (1, 1)),))
        self.assertEqual([raised for cost, raised in table[0]], all_stands((2, 2)))
        # Just the one store must be raised, the other may be.
        table = self.ask((1, 0, 0, 0, 0, 0, 5, 0, 0), (((0, 1),),))
        self.assertEqual(table[0][0], ((0, 1), (0, 1)))
        table = self.ask((1, 0, 0, 0, 0, 0, 5, 0, 0), (((0,), (1,)),))
        self.assertEqual(table[0][0], ((0, 1), (1, 0)))

    def test_against_the_plain_reckoning(self):
        dice = Dice(1)
        orders = 0
        for _ in range(60):
            shop, double = thrown_small(dice), thrown_double(dice, 3)
            table = self.ask(shop, double)
            orders += any([raised != stand for stand, (cost, raised) in zip(all_stands(shop), table[0])])
        self.assertGreater(orders, 10)

    def test_ties(self):
        dice = Dice(2)
        tied = 0
        for _ in range(120):
            shop, double = thrown_ties(dice)
            self.ask(shop, double)
            tied += any([len(cheapest_raises(shop, double, 0, stand)) > 1 for stand in all_stands(shop)])
        self.assertGreater(tied, 30)

    def test_the_greatest(self):
        dice = Dice(3)
        double = tuple([tuple([tuple([dice.throw(900, 1000) for _ in range(3)]) for _ in range(3)]) for _ in range(3)])
        for top in range(5):
            self.ask((top, 4 - top) + (1000000,) * 7, double)
            self.ask((top, 4 - top, 999983, 7, 13, 101, 1000000, 11, 17), double)

    def test_the_stores_exchanged(self):
        dice = Dice(4)
        for _ in range(60):
            shop, double = thrown_small(dice), thrown_double(dice, 3)
            exchanged = tuple([tuple([tuple(line) for line in zip(*day)]) for day in double])
            table, other = least_double(shop, double), least_double(shop, exchanged)
            for t in range(len(double)):
                costs = {stand: entry[0] for stand, entry in zip(all_stands(shop), table[t])}
                for (first, second), (cost, raised) in zip(all_stands(shop), other[t]):
                    self.assertEqual(cost, costs[(second, first)])
                    self.assertIn(raised[::-1], cheapest_raises(shop, double, t, (second, first)))

    def test_without_a_price_for_an_order(self):
        # The stores then have nothing to do with one another, however their falls hang together.
        dice = Dice(5)
        for _ in range(60):
            shop, double = put(thrown_small(dice), 2, 0), thrown_double(dice, 3)
            first = tuple([tuple([sum(line) for line in day]) for day in double])
            second = tuple([tuple([sum(line) for line in zip(*day)]) for day in double])
            singles = least(shop, first), least(shop, second)
            for t, day in enumerate(least_double(shop, double)):
                for (one, other), (cost, raised) in zip(all_stands(shop), day):
                    of_one, of_other = singles[0][t][one + shop[1]], singles[1][t][other + shop[1]]
                    self.assertEqual(as_number(cost), as_number(of_one[0]) + as_number(of_other[0]))
                    self.assertEqual(raised, (of_one[1], of_other[1]))

    def test_one_order_costs_no_more_than_two(self):
        dice = Dice(6)
        less = 0
        for _ in range(80):
            shop, double = thrown_small(dice), thrown_double(dice, 2)
            first = tuple([tuple([sum(line) for line in day]) for day in double])
            second = tuple([tuple([sum(line) for line in zip(*day)]) for day in double])
            for (one, other), (cost, raised) in zip(all_stands(shop), least_double(shop, double)[0]):
                apart = cheapest_cost(shop, first, 0, one) + cheapest_cost(shop, second, 0, other)
                self.assertLessEqual(as_number(cost), apart)
                less += as_number(cost) < apart
        self.assertGreater(less, 10)

    def test_prices_and_weights(self):
        dice = Dice(7)
        for _ in range(40):
            shop, double = thrown_small(dice), thrown_double(dice, 3)
            greater = shop[:2] + tuple([price * 7 for price in shop[2:]])
            table = least_double(shop, double)
            wanted = tuple([tuple([(as_share(7 * as_number(cost)), raised) for cost, raised in day]) for day in table])
            self.assertEqual(least_double(greater, double), wanted)
            light = tuple([tuple([tuple([min(weight, 100) for weight in line]) for line in day]) for day in double])
            heavy = put(light, 0, tuple([tuple([weight * 9 for weight in line]) for line in light[0]]))
            self.assertEqual(least_double(shop, heavy), least_double(shop, light))
            other = shop[:2] + thrown_small(dice)[2:]
            both = shop[:2] + tuple([one + two for one, two in zip(shop[2:], other[2:])])
            for days in zip(table, least_double(other, double), least_double(both, double)):
                for one, two, together in zip(*days):
                    self.assertGreaterEqual(as_number(together[0]), as_number(one[0]) + as_number(two[0]))

    def test_lines_of_nought_change_nothing(self):
        dice = Dice(8)
        for _ in range(30):
            shop = thrown_small(dice)
            double = tuple([tuple([line[:2] for line in day[:2]]) for day in thrown_double(dice, 2)])
            if is_double(double):
                wider = tuple([tuple([line + (0,) for line in day]) + ((0,) * (len(day[0]) + 1),) for day in double])
                self.assertEqual(least_double(shop, wider), least_double(shop, double))


def put_together(shop, double, paper, t):
    """The paper with the days ahead of t made anew, each the cheapest by the costs of the day behind it."""
    for now in reversed(range(t)):
        ahead = {stand: as_number(cost) for stand, (cost, raised) in zip(all_stands(shop), paper[now + 1])}
        entries = []
        for stand in all_stands(shop):
            cost, raised = min([(reckoned(shop, double[now], stand, raised, ahead), raised)
                                for raised in double_costs(shop, double, now, stand)])
            entries.append((as_share(cost), raised))
        paper = put(paper, now, tuple(entries))
    return paper


def reckoned(shop, day, stand, raised, ahead):
    cost = Fraction(raise_by_hand(shop, stand, raised))
    for both, likely in double_chances(day):
        (one, paid), (other, paid_too) = [fallen(shop, level, fall) for level, fall in zip(raised, both)]
        cost += likely * (paid + paid_too + ahead[(one, other)])
    return cost


class LetsDouble(unittest.TestCase):
    def ask(self, thing, wanted, shop=SHOP, double=DOUBLE):
        with self.subTest(thing=repr(thing)[:200], shop=shop, double=double):
            assert_truth(self, told_unchanged(self, lets_double, shop, double, thing), wanted)

    def test_told_tables(self):
        dice = Dice(9)
        for _ in range(60):
            shop, double = thrown_small(dice), thrown_double(dice, 3)
            self.ask(least_double(shop, double), True, shop, double)

    def test_the_greatest(self):
        double = (((991, 992, 993), (994, 995, 996), (997, 998, 999)),) * 3
        for top in range(5):
            shop = (top, 4 - top) + (1000000,) * 6 + (999983,)
            table = least_double(shop, double)
            self.ask(table, True, shop, double)
            for t in range(3):
                (cost, bottom), raised = table[t][3]
                self.ask(put_entry(table, t, 3, (as_share(Fraction(cost + 1, bottom)), raised)), False, shop, double)

    def test_other_raises(self):
        dice = Dice(10)
        cheap = dear = 0
        for count in range(60):
            shop, double = thrown_ties(dice, 2) if count % 3 else (thrown_small(dice, 2), thrown_double(dice, 2))
            table = least_double(shop, double)
            t = dice.throw(0, len(double) - 1)
            ahead = {stand: double_cost(shop, double, t + 1, stand) for stand in all_stands(shop)}
            for at, stand in enumerate(all_stands(shop)):
                fit = cheapest_raises(shop, double, t, stand)
                for raised in double_costs(shop, double, t, stand):
                    wanted = raised in fit
                    self.ask(put_entry(table, t, at, (table[t][at][0], raised)), wanted, shop, double)
                    # The raise's own cost, and the days ahead by that one.
                    own = as_share(reckoned(shop, double[t], stand, raised, ahead))
                    paper = put_entry(table, t, at, (own, raised))
                    self.ask(paper, wanted, shop, double)
                    self.ask(put_together(shop, double, paper, t), wanted, shop, double)
                    cheap += wanted and raised != table[t][at][1]
                    dear += not wanted
        self.assertGreater(min(cheap, dear), 30)

    def test_all_raises_the_greatest_of_the_cheapest(self):
        dice = Dice(11)
        for _ in range(60):
            shop, double = thrown_ties(dice)
            paper = tuple([tuple([(cost, max(cheapest_raises(shop, double, t, stand)))
                                  for stand, (cost, raised) in zip(all_stands(shop), day)])
                           for t, day in enumerate(least_double(shop, double))])
            self.ask(paper, True, shop, double)

    def test_a_cost_a_little_more_or_less(self):
        table = least_double(SHOP, DOUBLE)
        for t in range(2):
            for at in range(9):
                cost, raised = table[t][at]
                for more in (1, -1, Fraction(1, 3), Fraction(-1, 10 ** 190), 10 ** 190):
                    paper = put_entry(table, t, at, (as_share(as_number(cost) + more), raised))
                    self.ask(paper, False)
                    self.ask(put_together(SHOP, DOUBLE, paper, t), False)
        for more in (1, -1):
            paper = tuple([tuple([(as_share(as_number(cost) + more), raised) for cost, raised in day]) for day in table])
            self.ask(paper, False)
            self.ask((paper[0], table[1]), False)
            self.ask((table[0], paper[1]), False)

    def test_nothing_is_ever_ordered(self):
        # All costs are those of their raises, but others are cheaper.
        shop, double = (1, 0, 5, 2, 0, 0, 7, 0, 0), (((0, 0), (0, 1)),)
        ahead = {stand: sum([ended(shop, stock) for stock in stand]) for stand in all_stands(shop)}
        stay = tuple([(as_share(reckoned(shop, double[0], stand, stand, ahead)), stand) for stand in all_stands(shop)])
        self.ask((stay,), False, shop, double)
        full = tuple([(as_share(reckoned(shop, double[0], stand, (1, 1), ahead)), (1, 1)) for stand in all_stands(shop)])
        # One loss costs as much as one order.
        self.ask((full,), True, shop, double)
        self.ask((full,), False, put(shop, 6, 6), double)

    def test_another_shop_or_other_falls(self):
        table = least_double(SHOP, DOUBLE)
        for at in range(9):
            for more in (1, -1):
                other = put(SHOP, at, SHOP[at] + more)
                paper = least_double(other, DOUBLE)
                self.ask(paper, paper == table)
                self.ask(paper, True, other)
        self.ask(table, False, SHOP, DOUBLE[::-1])
        self.ask(table, False, SHOP, DOUBLE[:1])
        self.ask(table, False, SHOP, DOUBLE + DOUBLE[1:])
        self.ask(table, False, SHOP, (((1, 3), (2, 4)), DOUBLE[1]))
        self.ask(table, True, SHOP, (((9, 18), (27, 36)), ((0, 500, 1000), (0, 0, 0))))

    def test_things_of_another_form(self):
        table = least_double(SHOP, DOUBLE)
        for thing in (list(table), (table,), table[:1], table[1:], table + table[1:], (), ((), ()), table[::-1],
                      (table[0], list(table[1])), (list(table[0]), table[1]), dict(enumerate(table)),
                      (table[0][:-1], table[1]), (table[0], table[1][1:]), (table[0] + table[0][8:], table[1]),
                      (table[0][::-1], table[1])):
            self.ask(thing, False)
        for t in range(2):
            for at in range(9):
                cost, raised = table[t][at]
                first, second = raised
                for entry in ((cost,), (raised,), (raised, cost), (cost, raised, raised), (), [cost, raised], cost + raised,
                              (cost, list(raised)), (list(cost), raised), (cost, first), (cost, (first,)),
                              (cost, (first, second, second)), (cost, ()), (cost, (first, 2)), (cost, (2, second)),
                              (cost, (-2, second)), (cost, (first, -2)), (cost, (first, GREAT)), (cost, (-GREAT, second)),
                              ((cost[0] * 2, cost[1] * 2), raised), ((-cost[0], -cost[1]), raised), ((cost[0], 0), raised),
                              ((cost[0],), raised), (cost[0], raised), (f"{cost[0]}/{cost[1]}", raised), (cost, None),
                              {cost: raised}):
                    self.ask(put_entry(table, t, at, entry), False)

    def test_raises_beside_the_stocks_where_all_costs_alike(self):
        shop, double = (1, 1) + (0,) * 7, (((1, 1), (1, 1)),)
        table = least_double(shop, double)
        for at, stand in enumerate(all_stands(shop)):
            for raised in product(range(-2, 3), repeat=2):
                fits = all([stock <= level <= 1 for stock, level in zip(stand, raised)])
                self.ask(put_entry(table, 0, at, ((0, 1), raised)), fits, shop, double)

    def test_truths_in_the_place_of_like_numbers(self):
        shop, double = (1, 0, 0, 0, 0, 0, 0, 0, 0), (((1,),),)
        paper = tuple([((0, 1), (1, 1))] * 4)
        self.ask((paper,), True, shop, double)
        for entry in (((False, 1), (1, 1)), ((0, True), (1, 1)), ((0, 1), (True, 1)), ((0, 1), (1, True))):
            for at in range(4):
                self.ask((put(paper, at, entry),), False, shop, double)

    def test_other_things_at_any_depth(self):
        table = least_double(SHOP, DOUBLE)
        for thing in NO_WHOLES + OTHERS:
            self.ask(thing, False)
            for t in range(2):
                self.ask(put(table, t, thing), False)
                for at in (0, 4, 8):
                    cost, raised = table[t][at]
                    self.ask(put_entry(table, t, at, thing), False)
                    if not is_share(thing):
                        self.ask(put_entry(table, t, at, (thing, raised)), False)
                    if type(thing) is not int:
                        self.ask(put_entry(table, t, at, (cost, (thing, raised[1]))), False)
                        self.ask(put_entry(table, t, at, (cost, (raised[0], thing))), False)
                        self.ask(put_entry(table, t, at, ((thing, cost[1]), raised)), False)
                        self.ask(put_entry(table, t, at, ((cost[0], thing), raised)), False)
                    if type(thing) is not tuple or thing not in all_stands(SHOP):
                        self.ask(put_entry(table, t, at, (cost, thing)), False)

    def test_long_numbers(self):
        # Each cost another share of two hundred figures over as many.
        shop, double = (2, 2) + SHOP[2:], (((1, 2, 3), (4, 5, 6), (7, 8, 9)),) * 3
        many = [10 ** 199 + 2 * at + 1 for at in range(75)]
        paper = tuple([tuple([(as_share(Fraction(-many[t * 25 + at] - 2, many[t * 25 + at])), stand)
                              for at, stand in enumerate(all_stands(shop))]) for t in range(3)])
        self.ask(paper, False, shop, double)
        self.ask(least_double(shop, double)[:2] + paper[2:], False, shop, double)
        self.ask(paper[:2] + least_double(shop, double)[2:], False, shop, double)

    def test_what_is_let_by_has_the_table_s_costs(self):
        # Whatever is let by, of all papers with costs near the table's.
        shop, double = (1, 0, 1, 0, 1, 0, 1, 0, 0), (((1, 0), (0, 1)),)
        table = least_double(shop, double)
        let_by = 0
        for costs in product((-1, 0, 1), repeat=4):
            for raised in product(*[list(double_costs(shop, double, 0, stand)) for stand in all_stands(shop)]):
                paper = (tuple([(as_share(as_number(cost) + more), other)
                                for (cost, own), more, other in zip(table[0], costs, raised)]),)
                wanted = not any(costs) and all([other in cheapest_raises(shop, double, 0, stand)
                                                 for stand, other in zip(all_stands(shop), raised)])
                self.ask(paper, wanted, shop, double)
                let_by += wanted
        self.assertGreater(let_by, 0)


if __name__ == "__main__":
    unittest.main()
