import unittest
from fractions import Fraction

from brute import (
    Dice, all_stocks, as_number, as_share, chances, cheapest_cost, fallen, free_by_hand, late_cost, late_cost_by,
    late_costs, thrown_day, thrown_free_stock, thrown_shop,
)
from things import assert_refused, assert_share, put, told_unchanged
from twomarks.bends import free_from
from twomarks.errors import NoStand
from twomarks.table import least
from twomarks.underway import least_late, short_table

# Stocks from -4 to 3.
SHOP = (3, 4, 5, 2, 1, 4, 10, 1, 3)
WIDE = (20, 19, 999, 7, 13, 101, 5003, 11, 17)


def first_days(shop, falls, many, stock):
    """What the first so many days cost where nothing comes."""
    now = {stock: Fraction(1)}
    total = Fraction(0)
    for day in falls[:many]:
        after = {}
        for here, often in now.items():
            for fall, likely in chances(day):
                behind, paid = fallen(shop, here, fall)
                total += often * likely * paid
                after[behind] = after.get(behind, 0) + often * likely
        now = after
    return total


def greatest(day):
    return max([fall for fall, likely in chances(day)])


def counted_stocks(shop, falls, t, stock):
    return list(range(stock - sum([greatest(day) for day in falls[:t]]), shop[0] + 1))


def table_by_long_form(shop, falls, lag, stock):
    """Each entry by the long form from its day on, all of the counted stock lying there, less the first days."""
    days = []
    for t in range(len(falls) - lag):
        rest = falls[t:]
        entries = []
        for counted in counted_stocks(shop, falls, t, stock):
            costs = late_costs(shop, rest, lag, 0, counted, (0,) * lag)
            cost = min(costs.values())
            entries.append((as_share(cost - first_days(shop, rest, lag, counted)),
                            min([level for level in costs if costs[level] == cost])))
        days.append(tuple(entries))
    return tuple(days)


def thrown_late(dice, many, reach=7, price=20, days=4, most=3):
    """Shops, falls, lags and free stocks."""
    rows = []
    while len(rows) < many:
        shop, falls, stock = thrown_free_stock(dice, reach, price, days, most)
        rows.append((shop, falls, dice.throw(1, min(3, len(falls) - 1)), stock))
    return rows


def thrown_ties(dice, many):
    rows = []
    for shop, falls, lag, stock in thrown_late(dice, many):
        shop = shop[:2] + tuple([dice.throw(0, 2) for _ in range(7)])
        rows.append((shop, tuple([tuple([min(weight, 1) for weight in day]) for day in falls]), lag, stock))
    return rows


class LeastLate(unittest.TestCase):
    def ask(self, shop, falls, lag, stock, wanted=None):
        with self.subTest(shop=shop, falls=falls, lag=lag, stock=stock):
            told = told_unchanged(self, least_late, shop, falls, lag, stock)
            if wanted is None:
                wanted = as_share(late_cost(shop, falls, lag, 0, stock, (0,) * lag))
            assert_share(self, told, wanted)
            return told

    def test_written_costs(self):
        # One piece is wanted each day. On the first it lacks, for 4; then two that come cost 5 and 4, none of them
        # 8 for lacking and 6 at the end.
        self.ask(SHOP, ((0, 1), (0, 1)), 1, 0, (13, 1))
        # All is there from the first: keeping costs 2 and 1, and one piece brings 1.
        self.ask(SHOP, ((0, 1), (0, 1)), 1, 3, (2, 1))
        self.ask(SHOP, ((0, 1), (0, 1)), 1, 2, (1, 1))
        # Nothing is wanted and nothing ordered.
        self.ask(SHOP, ((1,), (1,)), 1, 0, (0, 1))
        self.ask(SHOP, ((1,), (1,), (1,), (1,)), 3, -4, (16 * 3 + 5 + 8, 1))
        # Half of the days want one: by 4, and by 3 behind them.
        self.ask((0, 1, 9, 9, 9, 4, 9, 0, 3), ((1, 1), (1,)), 1, 0, (4 + 4 + 3, 2))

    def test_against_the_long_form(self):
        dice = Dice(1)
        lags = {1: 0, 2: 0, 3: 0}
        for shop, falls, lag, stock in thrown_late(dice, 200) + thrown_late(dice, 40, 9, 1000, 5, 3):
            self.ask(shop, falls, lag, stock)
            lags[lag] += 1
        self.assertGreater(min(lags.values()), 20, lags)

    def test_ties_against_the_long_form(self):
        for row in thrown_ties(Dice(2), 150):
            self.ask(*row)

    def test_each_free_stock(self):
        dice = Dice(3)
        for shop, falls, lag, stock in thrown_late(dice, 30):
            for free in range(free_by_hand(shop, falls, 0), shop[0] + 1):
                self.ask(shop, falls, lag, free)

    def test_longer_ones_against_the_long_form(self):
        shop = (5, 8, 30, 2, 3, 17, 90, 4, 9)
        for lag in (1, 2, 3):
            self.ask(shop, ((1, 2), (3, 1, 2), (1, 1), (5, 0, 1), (2, 3), (1, 1)), lag, 0)
            self.ask(shop, ((1, 2), (3, 1, 2), (1, 1), (5, 0, 1), (2, 3), (1, 1)), lag, 5)
        self.ask((9, 9, 30, 2, 3, 17, 90, 4, 9), ((1, 2, 1000, 4, 0, 0, 6, 1), (3, 1, 2, 0, 0, 1)), 1, 3)

    def test_the_greatest_numbers(self):
        greatest_shop = (9, 30) + (1000000,) * 7
        for lag in (1, 2, 3):
            self.ask(greatest_shop, ((999, 1000), (1000, 1), (998, 1000, 0), (1000,)), lag, 8)
            self.ask((0, 39) + WIDE[2:], ((1, 2, 3, 4, 5, 6, 7, 8),) * 5, lag, 0)

    def test_the_greatest_are_reckoned(self):
        falls = tuple([tuple([1000 - 7 * t - fall for fall in range(7)]) for t in range(6)])
        for lag in (1, 2, 3):
            cost = as_number(least_late(WIDE, falls, lag, 18))
            table = short_table(WIDE, falls, lag, 18)
            self.assertEqual(cost, first_days(WIDE, falls, lag, 18) + as_number(table[0][0][0]))
            self.assertGreaterEqual(cost, as_number(least(WIDE, falls)[0][37][0]))

    def test_fewer_days_under_way(self):
        dice = Dice(4)
        less = 0
        for shop, falls, lag, stock in thrown_late(dice, 250, 12, 30, 6, 3):
            costs = [as_number(least(shop, falls)[0][stock + shop[1]][0])]
            costs += [as_number(least_late(shop, falls, days, stock)) for days in range(1, min(4, len(falls)))]
            self.assertEqual(costs[0], cheapest_cost(shop, falls, 0, stock))
            self.assertEqual(costs, sorted(costs), (shop, falls, stock))
            less += costs[0] < costs[-1]
        self.assertGreater(less, 40)


class NotFree(unittest.TestCase):
    def refused(self, shop, falls, stock):
        for lag in range(1, min(4, len(falls))):
            with self.subTest(shop=shop, falls=falls, lag=lag, stock=stock):
                assert_refused(self, NoStand, least_late, shop, falls, lag, stock)
                assert_refused(self, NoStand, short_table, shop, falls, lag, stock)

    def told(self, shop, falls, stock):
        for lag in range(1, min(4, len(falls))):
            least_late(shop, falls, lag, stock)
            short_table(shop, falls, lag, stock)

    def test_each_stock(self):
        dice = Dice(5)
        free = refused = none = 0
        for _ in range(250):
            shop = thrown_shop(dice, 8, 9)
            falls = tuple([thrown_day(dice, 3) for _ in range(dice.throw(2, 5))])
            first = free_by_hand(shop, falls, 0)
            none += first > shop[0]
            for stock in all_stocks(shop):
                if stock < first:
                    self.refused(shop, falls, stock)
                    refused += 1
                else:
                    self.told(shop, falls, stock)
                    free += 1
        self.assertGreater(min(free, refused, none), 30)

    def test_written_ones(self):
        # All days together want four at most.
        falls = ((1, 1), (1, 0, 1), (0, 1))
        self.assertEqual(free_from(SHOP, falls, 0), 0)
        self.told(SHOP, falls, 0)
        for stock in (-1, -2, -3, -4):
            self.refused(SHOP, falls, stock)
        self.told(put(SHOP, 1, 5), falls, -1)
        self.refused(put(SHOP, 1, 5), falls, -2)

    def test_falls_behind_the_order_days_count(self):
        falls = ((1,), (1,), (0, 0, 0, 0, 1))
        self.told(SHOP, falls, 0)
        self.refused(SHOP, falls, -1)

    def test_falls_that_are_not_seen(self):
        falls = ((1, 1, 0, 0, 0), (1, 0, 0, 0, 0, 0, 0, 0))
        self.told(SHOP, falls, -3)
        self.refused(SHOP, falls, -4)

    def test_none_is_free(self):
        falls = ((0, 0, 0, 0, 1), (0, 0, 0, 0, 1))
        self.assertEqual(free_from(SHOP, falls, 0), 4)
        for stock in all_stocks(SHOP):
            self.refused(SHOP, falls, stock)
        self.refused((0, 0) + SHOP[2:], ((1,), (0, 1)), 0)
        self.told((0, 0) + SHOP[2:], ((1,), (1, 0)), 0)
        self.told((0, 1) + SHOP[2:], ((1,), (0, 1)), 0)

    def test_all_are_free(self):
        for stock in all_stocks(SHOP):
            self.told(SHOP, ((1,), (5, 0), (1, 0, 0), (7,)), stock)


class ShortTable(unittest.TestCase):
    def look_at_form(self, shop, falls, lag, stock, table):
        self.assertIs(type(table), tuple)
        self.assertEqual(len(table), len(falls) - lag)
        for t, day in enumerate(table):
            self.assertIs(type(day), tuple)
            counted = counted_stocks(shop, falls, t, stock)
            self.assertEqual(len(day), len(counted))
            for here, entry in zip(counted, day):
                self.assertIs(type(entry), tuple)
                cost, level = entry
                assert_share(self, cost, as_share(as_number(cost)))
                self.assertIs(type(level), int)
                self.assertTrue(here <= level <= shop[0])

    def ask(self, shop, falls, lag, stock):
        with self.subTest(shop=shop, falls=falls, lag=lag, stock=stock):
            table = told_unchanged(self, short_table, shop, falls, lag, stock)
            self.look_at_form(shop, falls, lag, stock, table)
            self.assertEqual(table, table_by_long_form(shop, falls, lag, stock))
            together = first_days(shop, falls, lag, stock) + as_number(table[0][0][0])
            self.assertEqual(as_share(together), least_late(shop, falls, lag, stock))
            return table

    def test_a_written_table(self):
        # The pieces of day 0 come on day 1, behind which one that lacks has cost 4 and 3, one that lies there
        # 1 and brings 1.
        self.assertEqual(short_table(SHOP, ((0, 1), (0, 1)), 1, 0),
                         ((((9, 1), 2), ((7, 1), 1), ((0, 1), 2), ((0, 1), 3)),))
        self.assertEqual(short_table(SHOP, ((1, 1), (1,), (1,)), 1, 2),
                         ((((3, 2), 2), ((5, 2), 3)), (((0, 1), 1), ((0, 1), 2), ((0, 1), 3))))
        self.assertEqual(short_table((0, 0, 1, 1, 1, 1, 1, 1, 1), ((1,), (1,)), 1, 0), ((((0, 1), 0),),))

    def test_against_the_long_form(self):
        dice = Dice(6)
        orders = 0
        for row in thrown_late(dice, 120) + thrown_late(dice, 20, 9, 1000, 5, 3):
            table = self.ask(*row)
            orders += any([level != row[3] + at for at, (cost, level) in enumerate(table[0])])
        self.assertGreater(orders, 20)

    def test_ties_against_the_long_form(self):
        for row in thrown_ties(Dice(7), 120):
            self.ask(*row)

    def test_longer_ones_against_the_long_form(self):
        shop = (4, 9, 30, 2, 3, 17, 90, 4, 9)
        falls = ((1, 2), (3, 1, 2), (1, 1, 0), (5, 0, 1), (2, 3))
        for lag in (1, 2, 3):
            self.ask(shop, falls, lag, 0)
            self.ask(shop, falls, lag, -1)
            self.ask(shop, falls, lag, 4)

    def test_it_is_no_matter_where_the_counted_stock_is(self):
        dice = Dice(8)
        for shop, falls, lag, stock in thrown_late(dice, 60):
            table = short_table(shop, falls, lag, stock)
            for t, day in enumerate(table):
                rest = falls[t:]
                counted = counted_stocks(shop, falls, t, stock)
                at = dice.throw(0, len(counted) - 1)
                # Some of it is still under way; what lies there is free all the same.
                way = [0] * lag
                here = counted[at]
                for place in range(lag):
                    way[place] = dice.throw(0, here - counted[0])
                    here -= way[place]
                first, lying = Fraction(0), {here: Fraction(1)}
                for many in range(lag):
                    after = {}
                    for on_hand, often in lying.items():
                        for fall, likely in chances(rest[many]):
                            behind, paid = fallen(shop, on_hand + way[many], fall)
                            first += often * likely * paid
                            after[behind] = after.get(behind, 0) + often * likely
                    lying = after
                now = late_cost(shop, rest, lag, 0, here, tuple(way))
                self.assertEqual(as_share(now - first), day[at][0], (shop, falls, lag, stock, t, way))

    def test_by_its_levels_it_costs_just_so_much(self):
        dice = Dice(9)
        for shop, falls, lag, stock in thrown_late(dice, 120) + thrown_ties(dice, 60):
            table = short_table(shop, falls, lag, stock)

            def choose(t, counted):
                return table[t][counted - counted_stocks(shop, falls, t, stock)[0]][1]

            self.assertEqual(as_share(late_cost_by(shop, falls, lag, stock, choose)), least_late(shop, falls, lag, stock))

    def test_of_two_marks(self):
        dice = Dice(10)
        kinds = {"all": 0, "some": 0, "none": 0}
        rows = thrown_late(dice, 250, 14, 60, 6, 4) + thrown_late(dice, 100, 20, 6, 6, 5) + thrown_ties(dice, 150)
        for shop, falls, lag, stock in rows:
            shop = shop[:8] + (max(shop[7:]),)
            for t, day in enumerate(short_table(shop, falls, lag, stock)):
                counted = counted_stocks(shop, falls, t, stock)
                levels = [level for cost, level in day]
                ordering = [level for here, level in zip(counted, levels) if level != here]
                self.assertLessEqual(len(set(ordering)), 1, (shop, falls, lag, stock, t))
                self.assertEqual(levels[len(ordering):], counted[len(ordering):], (shop, falls, lag, stock, t))
                kinds["none" if not ordering else "all" if len(ordering) == len(counted) - 1 else "some"] += 1
        self.assertGreater(min(kinds.values()), 30, kinds)

    def test_the_told_one_is_the_asker_s_own(self):
        falls = ((1, 1), (1, 1), (1, 1))
        told = short_table(SHOP, falls, 1, 0)
        kept = repr(told)
        short_table(put(SHOP, 5, 9), falls, 1, 1)
        self.assertEqual(repr(told), kept)
        self.assertEqual(repr(short_table(SHOP, falls, 1, 0)), kept)


class PricesAndWeights(unittest.TestCase):
    def test_all_prices_so_many_times_greater(self):
        dice = Dice(11)
        for shop, falls, lag, stock in thrown_late(dice, 100, 14, 50, 6, 4) + thrown_ties(dice, 50):
            many = dice.pick((2, 7, 1000))
            greater = shop[:2] + tuple([price * many for price in shop[2:]])
            cost = least_late(shop, falls, lag, stock)
            self.assertEqual(as_number(least_late(greater, falls, lag, stock)), many * as_number(cost))
            table = short_table(shop, falls, lag, stock)
            wanted = tuple([tuple([(as_share(many * as_number(one)), level) for one, level in day]) for day in table])
            self.assertEqual(short_table(greater, falls, lag, stock), wanted)

    def test_weights_so_many_times_greater(self):
        dice = Dice(12)
        for shop, falls, lag, stock in thrown_late(dice, 100, 14, 50, 6, 4):
            falls = tuple([tuple([min(weight, 90) for weight in day]) for day in falls])
            t = dice.throw(0, len(falls) - 1)
            many = dice.throw(2, 11)
            heavier = put(falls, t, tuple([weight * many for weight in falls[t]]))
            self.assertEqual(least_late(shop, heavier, lag, stock), least_late(shop, falls, lag, stock))
            self.assertEqual(short_table(shop, heavier, lag, stock), short_table(shop, falls, lag, stock))

    def test_both_shops_prices_added(self):
        dice = Dice(13)
        more = 0
        for shop, falls, lag, stock in thrown_late(dice, 150, 14, 50, 6, 4):
            other = shop[:2] + thrown_shop(dice, 5, 50)[2:]
            both = shop[:2] + tuple([one + two for one, two in zip(shop[2:], other[2:])])
            tables = [short_table(one, falls, lag, stock) for one in (shop, other, both)]
            costs = [as_number(least_late(one, falls, lag, stock)) for one in (shop, other, both)]
            self.assertGreaterEqual(costs[2], costs[0] + costs[1])
            more += costs[2] > costs[0] + costs[1]
            for day, day_of_other, day_of_both in zip(*tables):
                for one, two, together in zip(day, day_of_other, day_of_both):
                    self.assertGreaterEqual(as_number(together[0]), as_number(one[0]) + as_number(two[0]))
        self.assertGreater(more, 20)


if __name__ == "__main__":
    unittest.main()
