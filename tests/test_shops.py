import unittest

from things import NO_WHOLES, OTHERS, assert_truth, assert_whole, put, told_unchanged
from twomarks.shops import (
    day_cost, end_cost, greatest_seen, is_day, is_falls, is_level, is_shop, next_stock, order_cost, stocks,
)

GREAT = 10 ** 200 - 1
MILLION = 1000000
# Each price is another one, so that none is taken for another.
SHOP = (5, 3, 100, 7, 2, 11, 1000, 3, 13)
NO_DEPTH = (5, 0, 100, 7, 2, 11, 1000, 3, 13)
NO_TOP = (0, 3, 100, 7, 2, 11, 1000, 3, 13)
NOTHING = (0, 0, 100, 7, 2, 11, 1000, 3, 13)
DEAREST = (20, 19, MILLION, MILLION - 1, MILLION - 2, MILLION - 3, MILLION - 4, MILLION - 5, MILLION - 6)
SHOPS = (SHOP, NO_DEPTH, NO_TOP, NOTHING, DEAREST)


class IsShop(unittest.TestCase):
    def test_shops(self):
        for shop in SHOPS + ((0,) * 9, (39, 0) + (MILLION,) * 7, (0, 39) + (0,) * 7):
            with self.subTest(shop):
                assert_truth(self, told_unchanged(self, is_shop, shop), True)

    def test_top_and_depth_together(self):
        for top in range(-2, 43):
            for depth in range(-2, 43):
                with self.subTest(top=top, depth=depth):
                    wanted = top >= 0 and depth >= 0 and top + depth <= 39
                    assert_truth(self, is_shop((top, depth) + SHOP[2:]), wanted)

    def test_top_and_depth_far_beyond(self):
        for top, depth in ((GREAT, 0), (0, GREAT), (GREAT, -GREAT), (-GREAT, GREAT), (40, -1), (-1, 40), (MILLION, 0)):
            with self.subTest(top=top, depth=depth):
                assert_truth(self, is_shop((top, depth) + SHOP[2:]), False)

    def test_edges_of_the_others(self):
        edges = ((0, True), (1, True), (MILLION - 1, True), (MILLION, True),
                 (-1, False), (MILLION + 1, False), (GREAT, False), (-GREAT, False))
        for at in range(2, 9):
            for number, wanted in edges:
                with self.subTest(at=at, number=number):
                    assert_truth(self, is_shop(put(SHOP, at, number)), wanted)

    def test_another_number_of_numbers(self):
        for many in range(20):
            with self.subTest(many):
                assert_truth(self, is_shop((1,) * many), many == 9)
        assert_truth(self, is_shop(SHOP[:8]), False)
        assert_truth(self, is_shop(SHOP + (0,)), False)

    def test_other_things_among_the_numbers(self):
        for at in range(9):
            for thing in NO_WHOLES:
                with self.subTest(at=at, thing=repr(thing)):
                    assert_truth(self, told_unchanged(self, is_shop, put(SHOP, at, thing)), False)

    def test_a_list_for_the_tuple(self):
        for shop in SHOPS:
            with self.subTest(shop):
                assert_truth(self, told_unchanged(self, is_shop, list(shop)), False)
                assert_truth(self, is_shop((shop,)), False)
                assert_truth(self, is_shop(dict(enumerate(shop))), False)
                assert_truth(self, is_shop(" ".join(map(str, shop))), False)

    def test_other_things(self):
        for thing in OTHERS:
            with self.subTest(repr(thing)[:60]):
                assert_truth(self, told_unchanged(self, is_shop, thing), False)


class IsDay(unittest.TestCase):
    def test_number_of_weights(self):
        for many in range(20):
            with self.subTest(many):
                assert_truth(self, told_unchanged(self, is_day, (3,) * many), 1 <= many <= 8)

    def test_edges_of_the_weights(self):
        edges = ((0, True), (1, True), (999, True), (1000, True), (-1, False), (1001, False), (GREAT, False),
                 (-GREAT, False))
        for many in range(2, 9):
            for at in range(many):
                for weight, wanted in edges:
                    with self.subTest(many=many, at=at, weight=weight):
                        assert_truth(self, is_day(put((5,) * many, at, weight)), wanted)

    def test_one_weight(self):
        for weight, wanted in ((1, True), (1000, True), (0, False), (-1, False), (1001, False)):
            with self.subTest(weight):
                assert_truth(self, is_day((weight,)), wanted)

    def test_not_all_nought(self):
        for many in range(1, 9):
            with self.subTest(many):
                assert_truth(self, is_day((0,) * many), False)
                for at in range(many):
                    assert_truth(self, is_day(put((0,) * many, at, 1)), True)

    def test_weights_below_nought_that_others_outweigh(self):
        assert_truth(self, is_day((-1, 2)), False)
        assert_truth(self, is_day((-1, -1)), False)
        assert_truth(self, is_day((0, -1)), False)

    def test_other_things_among_the_weights(self):
        for thing in NO_WHOLES:
            for day in ((thing,), (thing, 1), (1, thing), (0, thing), (1, 2, 3, 4, 5, 6, 7, thing)):
                with self.subTest(repr(day)):
                    assert_truth(self, told_unchanged(self, is_day, day), False)

    def test_another_thing_for_the_tuple(self):
        for thing in ([1], [1, 2], "12", {1: 1}, 12, ((1, 2),), ([1, 2],)):
            with self.subTest(repr(thing)):
                assert_truth(self, told_unchanged(self, is_day, thing), False)

    def test_other_things(self):
        for thing in OTHERS:
            with self.subTest(repr(thing)[:60]):
                assert_truth(self, told_unchanged(self, is_day, thing), False)


class IsFalls(unittest.TestCase):
    def test_number_of_days(self):
        for many in range(12):
            with self.subTest(many):
                assert_truth(self, told_unchanged(self, is_falls, ((1, 2),) * many), 1 <= many <= 6)

    def test_days_needn_t_be_alike(self):
        assert_truth(self, is_falls(((1,), (0, 1000), (1, 2, 3, 4, 5, 6, 7, 8))), True)

    def test_each_day_is_looked_at(self):
        wrong = ((), (0,), (0, 0), (-1, 2), (1001,), (1,) * 9, [1, 2], "12", {0: 1}, 1, None, True)
        for many in range(1, 7):
            for at in range(many):
                for day in wrong:
                    with self.subTest(many=many, at=at, day=repr(day)):
                        assert_truth(self, told_unchanged(self, is_falls, put(((1, 2),) * many, at, day)), False)

    def test_other_things_among_the_weights(self):
        for thing in NO_WHOLES:
            with self.subTest(repr(thing)):
                assert_truth(self, told_unchanged(self, is_falls, ((1, 2), (thing, 1))), False)
                assert_truth(self, is_falls(((1, thing),)), False)
                assert_truth(self, is_falls((thing, (1, 2))), thing in ((1,), (0, 1), (1, 1)))

    def test_another_thing_for_the_tuple(self):
        for thing in ([(1, 2)], [(1,), (2,)], (1, 2), {(1, 2): (1, 2)}, "1,2", (((1, 2),),)):
            with self.subTest(repr(thing)):
                assert_truth(self, told_unchanged(self, is_falls, thing), False)

    def test_other_things(self):
        for thing in OTHERS:
            with self.subTest(repr(thing)[:60]):
                assert_truth(self, told_unchanged(self, is_falls, thing), False)


class Stocks(unittest.TestCase):
    def test_written_stocks(self):
        self.assertEqual(stocks(SHOP), (-3, -2, -1, 0, 1, 2, 3, 4, 5))
        self.assertEqual(stocks(NO_DEPTH), (0, 1, 2, 3, 4, 5))
        self.assertEqual(stocks(NO_TOP), (-3, -2, -1, 0))
        self.assertEqual(stocks(NOTHING), (0,))

    def test_all_tops_and_depths(self):
        for top in range(40):
            for depth in range(40 - top):
                shop = (top, depth) + SHOP[2:]
                with self.subTest(top=top, depth=depth):
                    told = told_unchanged(self, stocks, shop)
                    self.assertIs(type(told), tuple)
                    self.assertTrue(all([type(stock) is int for stock in told]))
                    self.assertEqual(list(told), [at - depth for at in range(top + depth + 1)])


class IsLevel(unittest.TestCase):
    def test_from_the_stock_to_top(self):
        for shop in SHOPS:
            for stock in stocks(shop):
                for level in tuple(range(-45, 45)) + (GREAT, -GREAT):
                    assert_truth(self, is_level(shop, stock, level), stock <= level <= shop[0])

    def test_other_things(self):
        for thing in NO_WHOLES:
            with self.subTest(repr(thing)):
                assert_truth(self, told_unchanged(self, is_level, SHOP, -3, thing), False)


class GreatestSeen(unittest.TestCase):
    def test_written_days(self):
        for day, fall in (((1,), 0), ((1, 0), 0), ((0, 1), 1), ((5, 2, 0, 0), 1), ((0, 0, 0, 0, 0, 0, 0, 9), 7),
                          ((1, 0, 3, 0), 2), ((1000,) * 8, 7)):
            with self.subTest(day):
                assert_whole(self, told_unchanged(self, greatest_seen, day), fall)


class OrderCost(unittest.TestCase):
    def test_no_order(self):
        for shop in SHOPS:
            for stock in stocks(shop):
                with self.subTest(shop=shop, stock=stock):
                    assert_whole(self, order_cost(shop, stock, stock), 0)

    def test_written_orders(self):
        assert_whole(self, order_cost(SHOP, 0, 1), 107)
        assert_whole(self, order_cost(SHOP, 2, 5), 121)
        assert_whole(self, order_cost(SHOP, -3, 5), 156)
        assert_whole(self, order_cost(SHOP, -3, -1), 114)
        assert_whole(self, order_cost(SHOP, -1, 0), 107)
        assert_whole(self, order_cost((5, 3, 0, 7, 0, 0, 0, 0, 0), 1, 3), 14)
        assert_whole(self, order_cost((5, 3, 9, 0, 0, 0, 0, 0, 0), 1, 3), 9)
        assert_whole(self, order_cost(DEAREST, -19, 20), MILLION + 39 * (MILLION - 1))

    def test_each_piece_costs_the_same_behind_the_first(self):
        for shop in SHOPS:
            for stock in stocks(shop):
                paid = shop[2]
                for level in range(stock + 1, shop[0] + 1):
                    paid += shop[3]
                    with self.subTest(shop=shop, stock=stock, level=level):
                        assert_whole(self, told_unchanged(self, order_cost, shop, stock, level), paid)


class Falling(unittest.TestCase):
    def test_written_days(self):
        # level, fall, next stock, cost: keep 2, lack 11, lost 1000, depth 3
        rows = (
            (5, 0, 5, 10), (5, 4, 1, 2), (5, 5, 0, 0), (5, 6, -1, 11), (5, 8, -3, 33), (5, 9, -3, 1033),
            (5, 10, -3, 2033), (0, 0, 0, 0), (0, 1, -1, 11), (0, 3, -3, 33), (0, 4, -3, 1033),
            (-1, 0, -1, 11), (-1, 2, -3, 33), (-1, 3, -3, 1033), (-3, 0, -3, 33), (-3, 1, -3, 1033),
            (-3, 5, -3, 5033),
        )
        for level, fall, stock, cost in rows:
            with self.subTest(level=level, fall=fall):
                assert_whole(self, next_stock(SHOP, level, fall), stock)
                assert_whole(self, day_cost(SHOP, level, fall), cost)

    def test_without_depth(self):
        rows = ((5, 0, 5, 10), (5, 5, 0, 0), (5, 6, 0, 1000), (5, 9, 0, 4000), (0, 0, 0, 0), (0, 1, 0, 1000))
        for level, fall, stock, cost in rows:
            with self.subTest(level=level, fall=fall):
                assert_whole(self, next_stock(NO_DEPTH, level, fall), stock)
                assert_whole(self, day_cost(NO_DEPTH, level, fall), cost)

    def test_piece_by_piece(self):
        # Each piece that is wanted is taken by itself, so nothing here reckons as the program does.
        for shop in SHOPS:
            depth, keep, lack, lost = shop[1], shop[4], shop[5], shop[6]
            for level in stocks(shop):
                stock, never = level, 0
                for fall in range(50):
                    cost = sum([keep] * stock) + sum([lack] * -stock) + sum([lost] * never)
                    with self.subTest(shop=shop, level=level, fall=fall):
                        assert_whole(self, told_unchanged(self, next_stock, shop, level, fall), stock)
                        assert_whole(self, told_unchanged(self, day_cost, shop, level, fall), cost)
                    if stock == -depth:
                        never += 1
                    else:
                        stock -= 1

    def test_great_falls(self):
        great = 10 ** 30 - 1
        for shop in SHOPS:
            for level in stocks(shop):
                with self.subTest(shop=shop, level=level):
                    depth = shop[1]
                    assert_whole(self, told_unchanged(self, next_stock, shop, level, great), -depth)
                    never = great - level - depth
                    assert_whole(self, told_unchanged(self, day_cost, shop, level, great),
                                 shop[5] * depth + shop[6] * never)

    def test_pieces_sold_never_cost_no_lack(self):
        shop = (5, 3, 0, 0, 0, 11, 0, 0, 0)
        for fall in (8, 9, 100, 10 ** 30 - 1):
            with self.subTest(fall):
                assert_whole(self, day_cost(shop, 5, fall), 33)

    def test_start_piece_back_and_late_are_no_matter_of_a_day(self):
        other = (5, 3, 0, 0, 2, 11, 1000, 0, 0)
        for level in stocks(SHOP):
            for fall in range(20):
                self.assertEqual(day_cost(SHOP, level, fall), day_cost(other, level, fall))

    def test_the_next_stock_is_a_stock(self):
        for shop in SHOPS:
            for level in stocks(shop):
                for fall in range(50):
                    self.assertIn(next_stock(shop, level, fall), stocks(shop))


class EndCost(unittest.TestCase):
    def test_written_ends(self):
        for stock, cost in ((-3, 39), (-2, 26), (-1, 13), (0, 0), (1, -3), (2, -6), (5, -15)):
            with self.subTest(stock):
                assert_whole(self, end_cost(SHOP, stock), cost)

    def test_all_stocks(self):
        for shop in SHOPS:
            back, late = shop[7], shop[8]
            for stock in stocks(shop):
                with self.subTest(shop=shop, stock=stock):
                    wanted = sum([late] * -stock) - sum([back] * stock)
                    assert_whole(self, told_unchanged(self, end_cost, shop, stock), wanted)

    def test_without_prices(self):
        for stock in stocks((5, 3) + (0,) * 7):
            assert_whole(self, end_cost((5, 3, 9, 9, 9, 9, 9, 0, 0), stock), 0)


if __name__ == "__main__":
    unittest.main()
