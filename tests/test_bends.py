import unittest
from itertools import combinations

from brute import (
    Dice, all_stocks, as_number, as_share, behind_level, free_by_hand, thrown_falls, thrown_shop,
)
from things import assert_whole, told_unchanged
from twomarks.bends import bent, free_from, sums
from twomarks.table import least

# Stocks from -1 to 2.
SHOP = (2, 1, 5, 2, 1, 4, 10, 1, 3)
WIDE = (20, 19, 999999, 7, 13, 101, 5003, 11, 17)


def sum_by_hand(shop, falls, t, level):
    return shop[3] * level + behind_level(shop, falls, t, level)


def bent_by_hand(shop, falls, t, first):
    levels = range(first, shop[0] + 1)
    by_level = {level: sum_by_hand(shop, falls, t, level) for level in levels}
    wrong = []
    for u, v, w in combinations(levels, 3):
        outer = (w - v) * by_level[u] + (v - u) * (by_level[w] + shop[2])
        if outer < (w - u) * by_level[v]:
            wrong.append((u, v, w))
    return min(wrong) if wrong else None


def great_falls(dice):
    return tuple([tuple([dice.throw(1, 1000) for _ in range(8)]) for _ in range(6)])


class Sums(unittest.TestCase):
    def ask(self, shop, falls, t):
        with self.subTest(shop=shop, falls=falls, t=t):
            told = told_unchanged(self, sums, shop, falls, t)
            self.assertIs(type(told), tuple)
            for one in told:
                self.assertIs(type(one), tuple)
                self.assertEqual([type(part) for part in one], [int, int])
            self.assertEqual(told, tuple([as_share(sum_by_hand(shop, falls, t, level)) for level in all_stocks(shop)]))
            self.look_at(shop, falls, t, told)

    def look_at(self, shop, falls, t, told):
        """What point 13 tells of the table's costs."""
        numbers = [as_number(one) for one in told]
        for at, (cost, level) in enumerate(least(shop, falls)[t]):
            ways = [numbers[at]] + [shop[2] + above for above in numbers[at + 1:]]
            self.assertEqual(as_number(cost), min(ways) - shop[3] * (at - shop[1]))

    def test_written_sums(self):
        self.assertEqual(sums(SHOP, ((1, 1),), 0), ((10, 1), (7, 2), (2, 1), (4, 1)))
        self.assertEqual(sums(SHOP, ((1, 1), (1, 1)), 1), ((10, 1), (7, 2), (2, 1), (4, 1)))
        self.assertEqual(sums(SHOP, ((1, 1), (1, 1)), 0), ((16, 1), (33, 4), (17, 4), (11, 2)))
        self.assertEqual(sums((0, 0, 9, 9, 9, 9, 4, 9, 9), ((3, 1), (1, 1)), 0), ((3, 1),))

    def test_the_end_is_behind_the_last_day(self):
        shop = (1, 1, 0, 0, 0, 0, 0, 30, 50)
        self.assertEqual(sums(shop, ((1,),), 0), ((50, 1), (0, 1), (-30, 1)))
        self.assertEqual(sums(shop, ((1,), (1,)), 1), ((50, 1), (0, 1), (-30, 1)))
        self.assertEqual(sums(shop, ((1,), (1,)), 0), ((-30, 1), (-30, 1), (-30, 1)))

    def test_the_start_is_not_counted_on_the_day(self):
        for start in (0, 1, 1000000):
            self.assertEqual(sums((2, 1, start) + SHOP[3:], ((1, 1),), 0), ((10, 1), (7, 2), (2, 1), (4, 1)))

    def test_thrown_sums(self):
        dice = Dice(1)
        for _ in range(150):
            shop, falls = thrown_shop(dice, 8, dice.pick((3, 1000))), thrown_falls(dice, 4, 5)
            for t in range(len(falls)):
                self.ask(shop, falls, t)

    def test_the_greatest(self):
        falls = great_falls(Dice(2))
        for t in (0, 3, 5):
            self.ask(WIDE, falls, t)


class FreeFrom(unittest.TestCase):
    def test_written(self):
        falls = ((1, 1), (3, 0, 1), (1,), (1, 1, 0, 0))
        for t, wanted in ((0, 3), (1, 2), (2, 0), (3, 0)):
            assert_whole(self, told_unchanged(self, free_from, SHOP, falls, t), wanted)
        for t, wanted in ((0, 4), (1, 3), (2, 1), (3, 1)):
            assert_whole(self, free_from((2, 0) + SHOP[2:], falls, t), wanted)
        for t, wanted in ((0, -5), (1, -6), (2, -8), (3, -8)):
            assert_whole(self, free_from((2, 9) + SHOP[2:], falls, t), wanted)

    def test_above_top(self):
        assert_whole(self, free_from((0, 0) + SHOP[2:], ((0,) * 7 + (1,),) * 6, 0), 42)
        assert_whole(self, free_from((0, 39) + SHOP[2:], ((0,) * 7 + (1,),) * 6, 0), 3)
        assert_whole(self, free_from((1, 0) + SHOP[2:], ((1, 1, 1),), 0), 2)

    def test_falls_that_are_not_seen(self):
        assert_whole(self, free_from(SHOP, ((5, 0, 0, 0), (0, 2, 0, 0)), 0), 0)
        assert_whole(self, free_from(SHOP, ((5,),), 0), -1)
        assert_whole(self, free_from(SHOP, ((5, 0),), 0), -1)

    def test_thrown(self):
        dice = Dice(3)
        for _ in range(200):
            shop, falls = thrown_shop(dice, 39, 3), thrown_falls(dice, 4, 5)
            for t in range(len(falls)):
                assert_whole(self, told_unchanged(self, free_from, shop, falls, t), free_by_hand(shop, falls, t))

    def test_with_a_greater_depth_the_free_stocks_are_the_same(self):
        dice = Dice(4)
        looked_at = 0
        for _ in range(200):
            shop, falls = thrown_shop(dice, 12, 100), thrown_falls(dice, 3, 4)
            deeper = (shop[0], shop[1] + dice.throw(1, 4)) + shop[2:]
            for t in range(len(falls)):
                # Just these, from the told least one on, are there in the deeper shop.
                free = [stock for stock in all_stocks(shop) if stock >= free_from(shop, falls, t)]
                more = deeper[1] - shop[1]
                for stock in free:
                    at = stock + shop[1]
                    self.assertEqual(least(shop, falls)[t][at], least(deeper, falls)[t][at + more])
                    looked_at += 1
        self.assertGreater(looked_at, 500)


class Bent(unittest.TestCase):
    def ask(self, shop, falls, t, first, wanted):
        with self.subTest(shop=shop, falls=falls, t=t, first=first):
            told = told_unchanged(self, bent, shop, falls, t, first)
            self.assertEqual(repr(told), repr(wanted))
            return told

    def test_written(self):
        # The sums are late, 0 and -30: 0 is too high where late and start together are below 30.
        self.ask((1, 1, 0, 0, 0, 0, 0, 30, 50), ((1,),), 0, -1, None)
        self.ask((1, 1, 0, 0, 0, 0, 0, 30, 0), ((1,),), 0, -1, (-1, 0, 1))
        self.ask((1, 1, 29, 0, 0, 0, 0, 30, 0), ((1,),), 0, -1, (-1, 0, 1))
        self.ask((1, 1, 30, 0, 0, 0, 0, 30, 0), ((1,),), 0, -1, None)
        self.ask((1, 1, 0, 0, 0, 0, 0, 30, 0), ((1,),), 0, 0, None)

    def test_the_first_as_tuples_compare(self):
        # The sums are 0 for levels up to 0, then -30, -60, -90.
        shop = (3, 3, 0, 0, 0, 0, 0, 30, 0)
        self.ask(shop, ((1,),), 0, -3, (-3, -2, 1))
        self.ask(shop, ((1,),), 0, -2, (-2, -1, 1))
        self.ask(shop, ((1,),), 0, -1, (-1, 0, 1))
        self.ask(shop, ((1,),), 0, 0, None)
        self.ask((3, 3, 40, 0, 0, 0, 0, 30, 0), ((1,),), 0, -3, (-3, -2, 2))
        self.ask((3, 3, 80, 0, 0, 0, 0, 30, 0), ((1,),), 0, -3, (-3, -2, 3))
        self.ask((3, 3, 90, 0, 0, 0, 0, 30, 0), ((1,),), 0, -3, None)

    def test_fewer_than_three(self):
        shop = (3, 3, 0, 0, 0, 0, 0, 30, 0)
        for first in (2, 3):
            self.ask(shop, ((1, 5), (2, 3)), 0, first, None)
        for top, depth in ((0, 0), (1, 0), (0, 1)):
            for first in range(-depth, top + 1):
                self.ask((top, depth) + shop[2:], ((1, 5),), 0, first, None)

    def test_thrown(self):
        dice = Dice(5)
        kinds = {"none": 0, "first": 0, "later": 0}
        for _ in range(150):
            shop, falls = thrown_shop(dice, 7, dice.pick((3, 50))), thrown_falls(dice, 3, 4)
            for t in range(len(falls)):
                for first in all_stocks(shop):
                    told = self.ask(shop, falls, t, first, bent_by_hand(shop, falls, t, first))
                    if told is None:
                        kinds["none"] += 1
                    else:
                        kinds["first" if told == (first, first + 1, first + 2) else "later"] += 1
        self.assertGreater(min(kinds.values()), 30)

    def test_the_greatest(self):
        falls = great_falls(Dice(6))
        for first in (-19, 0):
            self.ask(WIDE, falls, 0, first, bent_by_hand(WIDE, falls, 0, first))

    def test_none_for_the_free_stocks_where_late_is_no_less_than_back(self):
        dice = Dice(7)
        looked_at = 0
        for _ in range(400):
            shop, falls = thrown_shop(dice, 14, dice.pick((3, 50))), thrown_falls(dice, 3, 4)
            shop = shop[:8] + (shop[7] + dice.pick((0, 0, dice.throw(0, 20))),)
            for t in range(len(falls)):
                first = free_from(shop, falls, t)
                if first <= shop[0] - 2:
                    self.ask(shop, falls, t, first, None)
                    looked_at += 1
        self.assertGreater(looked_at, 200)


if __name__ == "__main__":
    unittest.main()
