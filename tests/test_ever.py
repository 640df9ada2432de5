import unittest

from brute import (
    Dice, all_levels, all_stocks, as_number, as_share, cost_by_rule, costs_by_worths, marks_by_hand, mean_by_hand,
    thrown_lasting, thrown_levels,
)
from things import put, told_unchanged
from twomarks.errors import NoMean, NoStand, ShopError
from twomarks.ever import lasting, lasting_marks, mean_of
from twomarks.marks import marked
from twomarks.rules import cost_of
from twomarks.shares import is_share

# Stocks from -1 to 1.
SHOP = (1, 1, 3, 2, 1, 4, 10, 0, 0)
DAY = (1, 0, 1)
EIGHT_STOCKS = (4, 3, 40, 7, 3, 19, 90, 0, 0)
EIGHT_FALLS = (5, 0, 7, 1, 1000, 0, 2, 5)


def thrown_ties(dice):
    shop, day = thrown_lasting(dice, 5, 3)
    shop = shop[:2] + tuple([dice.throw(0, 2) for _ in range(7)])
    return shop, tuple([min(weight, 1) for weight in day])


class Refused(unittest.TestCase):
    def ask(self, shop, day, levels, wanted):
        with self.subTest(shop=shop, day=day):
            for deed in (lambda: lasting(shop, day), lambda: mean_of(shop, day, levels),
                         lambda: lasting_marks(shop, day)):
                if wanted:
                    deed()
                else:
                    with self.assertRaises(NoMean) as caught:
                        deed()
                    self.assertIs(type(caught.exception), NoMean)
                    self.assertIsInstance(caught.exception, ShopError)
                    self.assertNotIsInstance(caught.exception, NoStand)

    def test_the_greatest_seen_fall(self):
        for top in range(5):
            for depth in range(5 - top):
                shop = (top, depth) + SHOP[2:]
                levels = tuple(all_stocks(shop))
                for fall in range(8):
                    day = (0,) * fall + (3,)
                    self.ask(shop, day, levels, fall >= top + depth)
                    self.ask(shop, put(day, 0, 2), levels, fall >= top + depth)
                    # Falls that aren't seen don't count.
                    self.ask(shop, day + (0,) * (7 - fall), levels, fall >= top + depth)

    def test_many_stocks(self):
        for top, depth in ((8, 0), (0, 8), (4, 4), (39, 0), (20, 19)):
            shop = (top, depth) + SHOP[2:]
            self.ask(shop, (1,) * 8, tuple(all_stocks(shop)), False)
        for top, depth in ((7, 0), (0, 7), (4, 3)):
            shop = (top, depth) + SHOP[2:]
            self.ask(shop, (1,) * 8, tuple(all_stocks(shop)), True)


class Lasting(unittest.TestCase):
    def ask(self, shop, day):
        with self.subTest(shop=shop, day=day):
            told = told_unchanged(self, lasting, shop, day)
            self.assertIs(type(told), tuple)
            self.assertEqual(len(told), 3)
            mean, worths, levels = told
            self.assertIs(is_share(mean), True)
            self.assertEqual((type(mean), type(worths), type(levels)), (tuple, tuple, tuple))
            self.assertEqual((len(worths), len(levels)), (len(all_stocks(shop)), len(all_stocks(shop))))
            numbers = [as_number(worth) for worth in worths]
            for stock, worth, number, level in zip(all_stocks(shop), worths, numbers, levels):
                self.assertIs(is_share(worth), True)
                self.assertIs(type(level), int)
                costs = costs_by_worths(shop, day, numbers, stock)
                self.assertEqual(as_number(mean) + number, min(costs.values()))
                self.assertIn(level, costs)
                self.assertEqual(costs[level], min(costs.values()))
            return told

    def test_written_papers(self):
        # There is one stock, so half of the days cost 6.
        self.assertEqual(self.ask((0, 0, 9, 9, 9, 9, 6, 9, 9), (1, 1)), ((3, 1), ((0, 1),), (0,)))
        # Each day a piece is wanted: it is bought for 2 and 3, or lost for 7.
        mean, worths, levels = self.ask((1, 0, 3, 2, 0, 0, 7, 0, 0), (0, 1))
        self.assertEqual((mean, levels), ((5, 1), (1, 1)))
        self.assertEqual(as_number(worths[0]) - as_number(worths[1]), 5)
        mean, worths, levels = self.ask((1, 0, 3, 2, 0, 0, 4, 0, 0), (0, 1))
        self.assertEqual((mean, levels), ((4, 1), (0, 1)))
        self.assertEqual(as_number(worths[0]) - as_number(worths[1]), 4)

    def test_a_written_paper_of_two_days_that_differ(self):
        # A piece is wanted on half of the days; 6 are lost, or 1 and 1 are paid, and nothing for keeping:
        # so it is ordered behind each sale.
        mean, worths, levels = self.ask((1, 0, 1, 1, 0, 0, 6, 0, 0), (1, 1))
        self.assertEqual((mean, levels), ((1, 1), (1, 1)))
        # With a keeping of 4 a piece costs 4 on half of the days: it costs as much to have it as to lose it.
        mean, worths, levels = self.ask((1, 0, 1, 1, 4, 0, 6, 0, 0), (1, 1))
        self.assertEqual(mean, (3, 1))
        mean, worths, levels = self.ask((1, 0, 1, 1, 5, 0, 6, 0, 0), (1, 1))
        self.assertEqual((mean, levels), ((3, 1), (0, 1)))

    def test_thrown_papers(self):
        dice = Dice(2)
        ordering = 0
        for _ in range(400):
            shop, day = thrown_lasting(dice, 7, dice.pick((3, 100, 1000000)))
            mean, worths, levels = self.ask(shop, day)
            ordering += levels != tuple(all_stocks(shop))
        self.assertGreater(ordering, 100)

    def test_ties_and_prices_of_nought(self):
        dice = Dice(3)
        for _ in range(400):
            self.ask(*thrown_ties(dice))
        for top, depth in ((0, 0), (3, 0), (0, 3), (4, 3)):
            mean, worths, levels = self.ask((top, depth) + (0,) * 7, (1,) * 8)
            self.assertEqual(mean, (0, 1))
            self.assertEqual(len(set(worths)), 1)

    def test_the_greatest(self):
        for prices in ((40, 7, 3, 19, 90, 0, 0), (1000000,) * 7, (0, 999999, 1, 999983, 1000000, 3, 5)):
            for top in range(8):
                for day in (EIGHT_FALLS, (1000,) * 7 + (999,), (1, 2, 3, 4, 5, 6, 7, 8), (0,) * 7 + (1,)):
                    self.ask((top, 7 - top) + prices, day)

    def test_back_and_late_are_no_matter(self):
        dice = Dice(4)
        for _ in range(40):
            shop, day = thrown_lasting(dice, 7, 100)
            other = shop[:7] + (dice.throw(0, 100), dice.throw(0, 100))
            self.assertEqual(lasting(shop, day)[0], lasting(other, day)[0])

    def test_so_many_days_beside_so_many_means(self):
        dice = Dice(5)
        for _ in range(60):
            shop, day = thrown_lasting(dice, 4, 50)
            shop = shop[:7] + (0, 0)
            mean, worths, levels = lasting(shop, day)
            mean, numbers = as_number(mean), [as_number(worth) for worth in worths]
            for many in (1, 2, 5, 6):
                falls = (day,) * many
                thrown = tuple([thrown_levels(dice, shop) for _ in falls])
                for stock, worth in zip(all_stocks(shop), numbers):
                    told = as_number(cost_of(shop, falls, (levels,) * many, stock))
                    other = as_number(cost_of(shop, falls, thrown, stock))
                    self.assertLessEqual(told, many * mean + worth - min(numbers))
                    self.assertGreaterEqual(told, many * mean + worth - max(numbers))
                    self.assertGreaterEqual(other, many * mean + worth - max(numbers))

    def test_all_prices_so_many_times_greater(self):
        dice = Dice(6)
        for _ in range(40):
            shop, day = thrown_lasting(dice, 7, 100)
            greater = shop[:2] + tuple([price * 7 for price in shop[2:]])
            self.assertEqual(as_number(lasting(greater, day)[0]), 7 * as_number(lasting(shop, day)[0]))
            self.assertEqual(lasting_marks(greater, day), lasting_marks(shop, day))


class MeanOf(unittest.TestCase):
    def ask(self, shop, day, levels, wanted):
        with self.subTest(shop=shop, day=day, levels=levels):
            told = told_unchanged(self, mean_of, shop, day, levels)
            self.assertIs(type(told), tuple)
            self.assertEqual([type(part) for part in told], [int, int])
            self.assertEqual(told, wanted)

    def test_written_means(self):
        shop = (1, 0, 3, 2, 0, 0, 7, 0, 0)
        self.ask(shop, (0, 1), (1, 1), (5, 1))
        self.ask(shop, (0, 1), (0, 1), (7, 1))
        self.ask(shop, (1, 1), (1, 1), (5, 2))
        self.ask(shop, (1, 1), (0, 1), (7, 2))
        self.ask(shop, (4, 2), (1, 1), (5, 3))
        self.ask((0, 0, 9, 9, 9, 9, 6, 9, 9), (1, 1), (0,), (3, 1))
        # From 0 and 1 nothing is ordered, so all comes to -1, and stays there or is filled up.
        self.ask(SHOP, (0, 0, 1), (-1, 0, 1), (24, 1))
        self.ask(SHOP, (0, 0, 1), (1, 0, 1), (11, 1))

    def test_of_any_levels(self):
        dice = Dice(7)
        for _ in range(300):
            shop, day = thrown_lasting(dice, 7, dice.pick((3, 100, 1000000)))
            levels = thrown_levels(dice, shop)
            self.ask(shop, day, levels, as_share(mean_by_hand(shop, day, levels)))

    def test_the_greatest(self):
        dice = Dice(8)
        for day in (EIGHT_FALLS, (1000, 999, 998, 997, 991, 983, 977, 971)):
            for _ in range(10):
                levels = thrown_levels(dice, EIGHT_STOCKS)
                self.ask(EIGHT_STOCKS, day, levels, as_share(mean_by_hand(EIGHT_STOCKS, day, levels)))

    def test_none_is_less_than_the_paper_s(self):
        dice = Dice(9)
        for _ in range(40):
            shop, day = thrown_lasting(dice, 3, dice.pick((3, 50)))
            mean, worths, levels = lasting(shop, day)
            means = [as_number(mean_of(shop, day, other)) for other in all_levels(shop)]
            self.assertEqual(min(means), as_number(mean))
            self.assertEqual(mean_of(shop, day, levels), mean)
        for _ in range(40):
            shop, day = thrown_lasting(dice, 7, dice.pick((3, 50)))
            mean, worths, levels = lasting(shop, day)
            self.assertEqual(mean_of(shop, day, levels), mean)
            for _ in range(10):
                self.assertGreaterEqual(as_number(mean_of(shop, day, thrown_levels(dice, shop))), as_number(mean))

    def test_the_days_come_near_to_it(self):
        # One day more costs nearly the mean, and the days' costs by rows are those of cost_of.
        shop, day = SHOP, DAY
        for levels in all_levels(shop):
            rule = (levels,) * 4
            self.assertEqual(as_share(cost_by_rule(shop, (day,) * 4, rule, 0)), cost_of(shop, (day,) * 4, rule, 0))
            more = as_number(cost_of(shop, (day,) * 60, (levels,) * 60, 0))
            fewer = as_number(cost_of(shop, (day,) * 59, (levels,) * 59, 0))
            self.assertLess(abs(more - fewer - as_number(mean_of(shop, day, levels))) * 10 ** 6, 1)


class LastingMarks(unittest.TestCase):
    def ask(self, shop, day):
        with self.subTest(shop=shop, day=day):
            told = told_unchanged(self, lasting_marks, shop, day)
            numbers = [as_number(worth) for worth in lasting(shop, day)[1]]

            def cheapest(stock):
                costs = costs_by_worths(shop, day, numbers, stock)
                return [level for level in costs if costs[level] == min(costs.values())]

            self.assertEqual(repr(told), repr(marks_by_hand(cheapest, -shop[1], shop[0])))
            name, lesser, greater = told
            if name == "marks":
                levels = marked(shop, ((lesser, greater),))[0]
                self.assertEqual(mean_of(shop, day, levels), lasting(shop, day)[0])
            return told

    def test_written_marks(self):
        self.assertEqual(self.ask((1, 0, 3, 2, 0, 0, 7, 0, 0), (0, 1)), ("marks", 1, 1))
        self.assertEqual(self.ask((1, 0, 3, 2, 0, 0, 4, 0, 0), (0, 1)), ("marks", 0, 0))
        # It costs as much to order as not to.
        self.assertEqual(self.ask((1, 0, 3, 2, 0, 0, 5, 0, 0), (0, 1)), ("marks", 0, 0))
        self.assertEqual(self.ask((0, 0, 9, 9, 9, 9, 6, 9, 9), (1, 1)), ("marks", 0, 0))
        # What is lost is so dear that all is filled up from each lesser stock.
        self.assertEqual(self.ask((3, 0, 20, 1, 0, 0, 90, 0, 0), (9, 3, 0, 1)), ("marks", 3, 3))
        self.assertEqual(self.ask((3, 0, 20, 1, 0, 0, 90, 0, 0), (0, 3, 0, 1)), ("marks", 3, 3))

    def test_thrown_marks(self):
        dice = Dice(10)
        kinds = {}
        for _ in range(400):
            shop, day = thrown_lasting(dice, 7, dice.pick((3, 100)))
            name, lesser, greater = self.ask(shop, day)
            kind = name if name == "none" or lesser != greater else ("same" if lesser > -shop[1] else "stay")
            kinds[kind] = kinds.get(kind, 0) + 1
        self.assertGreater(min([kinds.get(kind, 0) for kind in ("marks", "same", "stay")]), 5, kinds)

    def test_ties_and_prices_of_nought(self):
        dice = Dice(11)
        for _ in range(300):
            self.ask(*thrown_ties(dice))

    def test_none(self):
        dice = Dice(12)
        found = 0
        for _ in range(300):
            shop = (dice.throw(1, 3), dice.throw(1, 4), dice.throw(0, 10), dice.throw(0, 10), dice.throw(0, 5),
                    dice.throw(0, 30), dice.throw(0, 3), 0, 0)
            day = tuple([dice.pick((0, 1, dice.throw(0, 20))) for _ in range(7)]) + (dice.throw(1, 5),)
            found += self.ask(shop, day)[0] == "none"
        self.assertGreater(found, 5)


if __name__ == "__main__":
    unittest.main()
