import unittest

from brute import (
    Dice, all_stocks, cheapest_levels, marks_by_hand, thrown_falls, thrown_shop,
)
from things import put, told_unchanged
from twomarks.bends import free_from
from twomarks.marks import marked, marks
from twomarks.rules import cost_of, is_rule
from twomarks.table import least

# Stocks from -1 to 2.
SHOP = (2, 1, 5, 2, 1, 4, 10, 1, 3)
WIDE = (20, 19, 999, 7, 13, 101, 5003, 11, 17)


def by_hand(shop, falls, t, first):
    return marks_by_hand(lambda stock: cheapest_levels(shop, falls, t, stock), first, shop[0])


def late_enough(dice, shop):
    """The shop with a late that is no less than back."""
    return shop[:8] + (shop[7] + dice.pick((0, 0, dice.throw(0, 20))),)


def thrown_free(dice, many, reach, price):
    """Shops with late no less than back, falls, and days on which stocks are free."""
    rows = []
    while len(rows) < many:
        shop = late_enough(dice, thrown_shop(dice, reach, price))
        falls = thrown_falls(dice, 3, 4)
        if free_from(shop, falls, 0) <= shop[0]:
            rows.append((shop, falls))
    return rows


class Marks(unittest.TestCase):
    def ask(self, shop, falls, t, first, wanted):
        with self.subTest(shop=shop, falls=falls, t=t, first=first):
            told = told_unchanged(self, marks, shop, falls, t, first)
            self.assertEqual(repr(told), repr(wanted))
            return told

    def test_written_marks(self):
        # From -1 the cheapest is 1, from 0 on nothing is ordered.
        self.ask(SHOP, ((1, 1),), 0, -1, ("marks", 0, 1))
        for first in (0, 1, 2):
            self.ask(SHOP, ((1, 1),), 0, first, ("marks", first, first))
        self.ask(SHOP, ((1, 1), (1, 1)), 0, -1, ("marks", 0, 1))
        self.ask((0, 0, 9, 9, 9, 9, 4, 9, 9), ((3, 1), (1, 1)), 0, 0, ("marks", 0, 0))

    def test_written_marks_of_what_pieces_bring(self):
        # The sums are 0 for levels up to 0, then -30, -60, -90: from all below 2 up to 3.
        self.ask((3, 3, 40, 0, 0, 0, 0, 30, 0), ((1,),), 0, -3, ("marks", 2, 3))
        # At a start of 60 it costs as much from 1 to order as not to.
        self.ask((3, 3, 60, 0, 0, 0, 0, 30, 0), ((1,),), 0, -3, ("marks", 1, 3))
        self.ask((3, 3, 90, 0, 0, 0, 0, 30, 0), ((1,),), 0, -3, ("marks", -3, -3))

    def test_written_none(self):
        # Level 1 costs 8, lesser ones 16, as what is sold never is free: it is worth 1 piece from 0, just worth
        # 2 pieces from -1, and not worth 3 from -2.
        shop, falls = (1, 2, 2, 3, 0, 8, 0, 0, 0), ((0, 0, 1),)
        self.ask(shop, falls, 0, -2, ("none", -2, 0))
        self.ask(shop, falls, 0, -1, ("marks", 1, 1))
        self.ask(shop, falls, 0, 0, ("marks", 1, 1))
        self.ask(shop, falls, 0, 1, ("marks", 1, 1))
        self.ask(put(shop, 2, 3), falls, 0, -2, ("none", -1, 0))
        self.ask(put(shop, 3, 0), falls, 0, -2, ("marks", 1, 1))

    def test_the_greatest_stock_from_which_it_is_not_cheapest(self):
        # With falls of 0 or 6 the sums are 20, 15, 10, 12, 14, 16, 18, 15 from -2 on: from 4 up to 5, from 3 too; 2 stays.
        shop, falls = (5, 2, 0, 0, 4, 10, 0, 0, 0), ((1, 0, 0, 0, 0, 0, 1),)
        self.ask(shop, falls, 0, -2, ("none", 2, 4))
        self.ask(shop, falls, 0, 2, ("none", 2, 4))
        self.ask(shop, falls, 0, 3, ("marks", 5, 5))
        # From 4 it costs as much to order as not to.
        self.ask(put(shop, 2, 3), falls, 0, 3, ("marks", 3, 3))
        self.ask(put(shop, 2, 3), falls, 0, -2, ("marks", 0, 0))
        self.ask(put(shop, 2, 2), falls, 0, -2, ("none", 3, 4))

    def test_thrown_none(self):
        dice = Dice(5)
        found = 0
        for _ in range(200):
            shop = (dice.throw(1, 4), dice.throw(1, 4), dice.throw(0, 10), dice.throw(0, 10), dice.throw(0, 5),
                    dice.throw(0, 30), dice.throw(0, 3), dice.throw(0, 30), dice.throw(0, 3))
            falls = thrown_falls(dice, 3, 5)
            for t in range(len(falls)):
                for first in all_stocks(shop):
                    found += self.ask(shop, falls, t, first, by_hand(shop, falls, t, first))[0] == "none"
        self.assertGreater(found, 20)

    def test_thrown_marks(self):
        dice = Dice(2)
        kinds = {"marks": 0, "same": 0, "start": 0}
        for _ in range(250):
            shop, falls = thrown_shop(dice, 8, dice.pick((3, 50))), thrown_falls(dice, 3, 5)
            for t in range(len(falls)):
                for first in all_stocks(shop):
                    told = self.ask(shop, falls, t, first, by_hand(shop, falls, t, first))
                    if told[0] == "marks" and told[1] == first:
                        kinds["start"] += 1
                    elif told[0] == "marks":
                        kinds["same" if told[1] == told[2] else "marks"] += 1
        self.assertGreater(min(kinds.values()), 20, kinds)

    def test_thrown_marks_with_ties(self):
        dice = Dice(3)
        for _ in range(250):
            shop = (dice.throw(0, 4), dice.throw(0, 3)) + tuple([dice.throw(0, 2) for _ in range(7)])
            falls = tuple([dice.pick(((1,), (0, 1), (1, 1), (1, 0, 1), (2, 1, 1))) for _ in range(dice.throw(1, 3))])
            for t in range(len(falls)):
                for first in all_stocks(shop):
                    self.ask(shop, falls, t, first, by_hand(shop, falls, t, first))

    def test_nothing_costs_anything(self):
        for first in (-2, -1, 0, 1, 2):
            self.ask((2, 2) + (0,) * 7, ((1, 1), (1, 2, 3)), 0, first, ("marks", first, first))

    def test_the_greatest(self):
        dice = Dice(4)
        falls = tuple([tuple([dice.throw(1, 1000) for _ in range(8)]) for _ in range(6)])
        for t, first in ((0, -19), (0, 0), (5, -19), (3, 20)):
            self.ask(WIDE, falls, t, first, by_hand(WIDE, falls, t, first))

    def test_right_where_the_least_stock_is_free(self):
        dice = Dice(5)
        for shop, falls in thrown_free(dice, 150, 14, 50) + thrown_free(dice, 150, 8, 3):
            for t in range(len(falls)):
                for first in range(free_from(shop, falls, t), shop[0] + 1):
                    self.assertEqual(marks(shop, falls, t, first)[0], "marks", (shop, falls, t, first))

    def test_both_marks_the_same_where_start_is_nought(self):
        dice = Dice(6)
        ordering = 0
        for shop, falls in thrown_free(dice, 200, 14, 50) + thrown_free(dice, 200, 8, 3):
            shop = put(shop, 2, 0)
            for t in range(len(falls)):
                for first in range(free_from(shop, falls, t), shop[0] + 1):
                    name, lesser, greater = marks(shop, falls, t, first)
                    self.assertEqual((name, greater), ("marks", lesser), (shop, falls, t, first))
                    ordering += lesser > first
        self.assertGreater(ordering, 50)


class DearerMarks(unittest.TestCase):
    def look_at(self, shop, falls, t, at, sign):
        """Neither mark less with more of the price at this place, where sign is 1; neither greater where it is -1."""
        unlike = 0
        for more in (1, 7, 60):
            dearer = put(shop, at, shop[at] + more)
            for first in range(free_from(shop, falls, t), shop[0] + 1):
                name, lesser, greater = marks(shop, falls, t, first)
                other, dear_lesser, dear_greater = marks(dearer, falls, t, first)
                with self.subTest(shop=shop, dearer=dearer, falls=falls, t=t, first=first):
                    self.assertEqual((name, other), ("marks", "marks"))
                    self.assertGreaterEqual(sign * (dear_lesser - lesser), 0)
                    self.assertGreaterEqual(sign * (dear_greater - greater), 0)
                unlike += dear_lesser != lesser or dear_greater != greater
        return unlike

    def test_on_the_last_day(self):
        dice = Dice(7)
        lacking = keeping = 0
        for shop, falls in thrown_free(dice, 200, 12, 50):
            lacking += self.look_at(shop, falls, len(falls) - 1, 5, 1)
            keeping += self.look_at(shop, falls, len(falls) - 1, 4, -1)
        self.assertGreater(lacking, 30)
        self.assertGreater(keeping, 30)

    def test_on_each_day_where_start_is_nought(self):
        dice = Dice(8)
        lacking = keeping = 0
        for shop, falls in thrown_free(dice, 150, 14, 50):
            for t in range(len(falls)):
                lacking += self.look_at(put(shop, 2, 0), falls, t, 5, 1)
                keeping += self.look_at(put(shop, 2, 0), falls, t, 4, -1)
        self.assertGreater(lacking, 30)
        self.assertGreater(keeping, 30)


class Marked(unittest.TestCase):
    def ask(self, shop, pairs, wanted):
        with self.subTest(shop=shop, pairs=pairs):
            told = told_unchanged(self, marked, shop, pairs)
            self.assertEqual(repr(told), repr(wanted))
            self.assertIs(is_rule(shop, ((1,),) * len(pairs), told), True)

    def test_written_rules(self):
        self.ask(SHOP, ((0, 1),), ((1, 0, 1, 2),))
        self.ask(SHOP, ((1, 2),), ((2, 2, 1, 2),))
        self.ask(SHOP, ((2, 2),), ((2, 2, 2, 2),))
        self.ask(SHOP, ((0, 1), (1, 2), (2, 2)), ((1, 0, 1, 2), (2, 2, 1, 2), (2, 2, 2, 2)))
        self.ask((0, 0) + SHOP[2:], ((0, 0), (1, 0)), ((0,), (0,)))

    def test_greater_not_above_the_stock(self):
        self.ask(SHOP, ((2, 0),), ((0, 0, 1, 2),))
        self.ask(SHOP, ((2, -1),), ((-1, 0, 1, 2),))
        self.ask(SHOP, ((2, -7),), ((-1, 0, 1, 2),))
        self.ask(SHOP, ((2, 1),), ((1, 1, 1, 2),))
        self.ask(SHOP, ((0, -1),), ((-1, 0, 1, 2),))

    def test_lesser_beyond_the_stocks(self):
        great = 10 ** 30 - 1
        for lesser in (-1, -2, -9, -great):
            self.ask(SHOP, ((lesser, 2),), ((-1, 0, 1, 2),))
        for lesser in (2, 3, 9, great):
            self.ask(SHOP, ((lesser, 2),), ((2, 2, 2, 2),))
            self.ask(SHOP, ((lesser, 0),), ((0, 0, 1, 2),))
            self.ask(SHOP, ((lesser, -great),), ((-1, 0, 1, 2),))

    def test_all_pairs(self):
        for top in range(4):
            for depth in range(4):
                shop = (top, depth) + SHOP[2:]
                for lesser in range(-6, 7):
                    for greater in range(-6, top + 1):
                        wanted = []
                        for stock in all_stocks(shop):
                            orders = stock < lesser and greater > stock
                            wanted.append(greater if orders else stock)
                        self.ask(shop, ((lesser, greater), (-7, 0)), (tuple(wanted), tuple(all_stocks(shop))))

    def test_the_rule_by_right_marks_costs_just_the_least(self):
        dice = Dice(9)
        for shop, falls in thrown_free(dice, 150, 14, 50) + thrown_free(dice, 150, 8, 3):
            told = [marks(shop, falls, t, free_from(shop, falls, t)) for t in range(len(falls))]
            rule = marked(shop, tuple([(lesser, greater) for name, lesser, greater in told]))
            for stock in range(free_from(shop, falls, 0), shop[0] + 1):
                with self.subTest(shop=shop, falls=falls, stock=stock):
                    self.assertEqual(cost_of(shop, falls, rule, stock), least(shop, falls)[0][stock + shop[1]][0])

    def test_wherever_the_marks_are_right_for_all_stocks(self):
        dice = Dice(10)
        right = 0
        for _ in range(200):
            shop, falls = thrown_shop(dice, 7, 50), thrown_falls(dice, 3, 4)
            told = [marks(shop, falls, t, -shop[1]) for t in range(len(falls))]
            if all([name == "marks" for name, lesser, greater in told]):
                right += 1
                rule = marked(shop, tuple([(lesser, greater) for name, lesser, greater in told]))
                for stock in all_stocks(shop):
                    self.assertEqual(cost_of(shop, falls, rule, stock), least(shop, falls)[0][stock + shop[1]][0])
        self.assertGreater(right, 50)


if __name__ == "__main__":
    unittest.main()
