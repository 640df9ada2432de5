import unittest
from fractions import Fraction
from itertools import product

from brute import (
    Dice, all_levels, all_stocks, as_number, as_share, cost_by_rows, costs_by_worths, looking_back,
    thrown_lasting, thrown_levels, worths_by_hand,
)
from things import NO_WHOLES, OTHERS, assert_refused, assert_truth, put, told_unchanged
from twomarks.errors import NoMean
from twomarks.ever import lasting, lasting_marks, mean_of
from twomarks.everlooks import lets_lasting
from twomarks.marks import marked
from twomarks.rules import cost_of
from twomarks.table import least

GREAT = 10 ** 200 - 1
# Stocks from -1 to 1.
SHOP = (1, 1, 3, 2, 1, 4, 10, 0, 0)
DAY = (1, 0, 1)
EIGHT_STOCKS = (4, 3, 40, 7, 3, 19, 90, 5, 8)
EIGHT_FALLS = (5, 0, 7, 1, 1000, 0, 2, 5)
LITTLE = tuple([Fraction(sign * top, bottom) for sign in (1, -1)
                for top, bottom in ((1, 1), (1, 2), (1, 3), (1, 10 ** 190 + 1), (10 ** 199, 1), (10 ** 199, 7))])


def moved(share, more):
    return as_share(as_number(share) + more)


def cheap_levels(shop, day, worths):
    """For each stock the levels that have the least by the worths."""
    told = []
    for stock in all_stocks(shop):
        costs = costs_by_worths(shop, day, [as_number(worth) for worth in worths], stock)
        told.append([level for level in costs if costs[level] == min(costs.values())])
    return told


def let_by_hand(shop, day, mean, worths, levels):
    """Point 19 word by word, of a thing that has the form of a lasting paper."""
    numbers = [as_number(worth) for worth in worths]
    for stock, number, level in zip(all_stocks(shop), numbers, levels):
        costs = costs_by_worths(shop, day, numbers, stock)
        if as_number(mean) + number != min(costs.values()) or costs[level] != min(costs.values()):
            return False
    return True


def thrown_ties(dice, reach=4):
    shop, day = thrown_lasting(dice, reach, 3)
    return shop[:2] + tuple([dice.throw(0, 2) for _ in range(7)]), tuple([min(weight, 1) for weight in day])


class LetsLasting(unittest.TestCase):
    def ask(self, thing, wanted, shop=SHOP, day=DAY):
        with self.subTest(thing=repr(thing)[:200], shop=shop, day=day):
            assert_truth(self, told_unchanged(self, lets_lasting, shop, day, thing), wanted)

    def test_written_papers(self):
        # Half of the days lose one piece for 6.
        one_stock = (0, 0, 9, 9, 9, 9, 6, 9, 9)
        self.ask(((3, 1), ((0, 1),), (0,)), True, one_stock, (1, 1))
        self.ask(((3, 1), ((-7, 9),), (0,)), True, one_stock, (1, 1))
        self.ask(((6, 2), ((0, 1),), (0,)), False, one_stock, (1, 1))
        self.ask(((2, 1), ((0, 1),), (0,)), False, one_stock, (1, 1))
        # Each day a piece is wanted: it is bought for 3 and 2, or lost for 7, so having one is worth 5.
        shop = (1, 0, 3, 2, 0, 0, 7, 0, 0)
        self.ask(((5, 1), ((0, 1), (-5, 1)), (1, 1)), True, shop, (0, 1))
        self.ask(((5, 1), ((5, 1), (0, 1)), (1, 1)), True, shop, (0, 1))
        self.ask(((7, 1), ((0, 1), (-7, 1)), (0, 1)), False, shop, (0, 1))
        self.ask(((5, 1), ((0, 1), (-5, 1)), (0, 1)), False, shop, (0, 1))
        self.ask(((5, 1), ((0, 1), (-4, 1)), (1, 1)), False, shop, (0, 1))
        # A loss of 5 costs as much.
        shop = put(shop, 6, 5)
        for level in (0, 1):
            self.ask(((5, 1), ((0, 1), (-5, 1)), (level, 1)), True, shop, (0, 1))

    def test_told_papers(self):
        dice = Dice(1)
        for _ in range(150):
            shop, day = thrown_lasting(dice, 7, dice.pick((3, 100, 1000000)))
            self.ask(lasting(shop, day), True, shop, day)

    def test_all_worths_moved_by_one_share(self):
        dice = Dice(2)
        for _ in range(25):
            shop, day = thrown_lasting(dice, 7, dice.pick((3, 100)))
            mean, worths, levels = lasting(shop, day)
            for more in LITTLE:
                self.ask((mean, tuple([moved(worth, more) for worth in worths]), levels), True, shop, day)

    def test_other_levels(self):
        dice = Dice(3)
        cheap = dear = 0
        for _ in range(250):
            shop, day = thrown_ties(dice) if dice.throw(0, 3) else thrown_lasting(dice, 4, 30)
            mean, worths, levels = lasting(shop, day)
            fit = cheap_levels(shop, day, worths)
            for at, stock in enumerate(all_stocks(shop)):
                for level in range(stock, shop[0] + 1):
                    self.ask((mean, worths, put(levels, at, level)), level in fit[at], shop, day)
                    dear += level not in fit[at]
            for other in list(product(*fit))[:30]:
                self.ask((mean, worths, other), True, shop, day)
                cheap += other != levels
        self.assertGreater(cheap, 60)
        self.assertGreater(dear, 100)

    def test_a_mean_or_a_worth_a_little_more_or_less(self):
        dice = Dice(4)
        cases = [(SHOP, DAY), (EIGHT_STOCKS, EIGHT_FALLS)]
        while len(cases) < 12:
            shop, day = thrown_lasting(dice, 7, 100)
            # Of a single stock any worth is let by.
            if shop[0] + shop[1] > 0:
                cases.append((shop, day))
        for shop, day in cases:
            mean, worths, levels = lasting(shop, day)
            for more in LITTLE:
                self.ask((moved(mean, more), worths, levels), False, shop, day)
                for at in range(len(worths)):
                    self.ask((mean, put(worths, at, moved(worths[at], more)), levels), False, shop, day)

    def test_the_mean_and_worths_of_other_levels(self):
        # They meet their own equations, but other levels may be cheaper by them.
        dice = Dice(11)
        cases = [(SHOP, DAY)] + [thrown_lasting(dice, 3, dice.pick((3, 30))) for _ in range(10)]
        let_by = others = 0
        for shop, day in cases:
            for levels in all_levels(shop):
                mean, worths = worths_by_hand(shop, day, levels)
                self.assertEqual(as_share(mean), mean_of(shop, day, levels))
                paper = (as_share(mean), tuple([as_share(worth) for worth in worths]), levels)
                wanted = let_by_hand(shop, day, *paper)
                self.ask(paper, wanted, shop, day)
                let_by += wanted
                others += not wanted
                if wanted:
                    self.assertEqual(paper[0], lasting(shop, day)[0])
        self.assertGreater(let_by, 10)
        self.assertGreater(others, 50)

    def test_thrown_papers_word_by_word(self):
        dice = Dice(5)
        let_by = others = 0
        for _ in range(300):
            shop, day = thrown_ties(dice, 2)
            mean, worths, levels = lasting(shop, day)
            mean = moved(mean, dice.pick((0, 0, 0, 1, -1)))
            worths = tuple([moved(worth, dice.pick((0, 0, 0, 0, 0, 1, -1))) for worth in worths])
            levels = dice.pick((levels, thrown_levels(dice, shop)))
            wanted = let_by_hand(shop, day, mean, worths, levels)
            self.ask((mean, worths, levels), wanted, shop, day)
            let_by += wanted
            others += not wanted
        self.assertGreater(let_by, 40)
        self.assertGreater(others, 40)

    def test_another_shop_s_paper(self):
        paper = lasting(SHOP, DAY)
        for at in range(9):
            for more in (1, -1):
                other = put(SHOP, at, SHOP[at] + more)
                if min(other) < 0 or other[0] + other[1] > 2:
                    continue
                of_other = lasting(other, DAY)
                fits = len(of_other[1]) == 3 and let_by_hand(SHOP, DAY, *of_other)
                self.ask(of_other, fits)
                self.ask(of_other, True, other)
        for day in ((1, 0, 2), (2, 0, 1), (1, 1, 1), (0, 0, 1), (1, 0, 1, 1)):
            self.ask(paper, False, SHOP, day)
        self.ask(paper, True, SHOP, (7, 0, 7))
        self.ask(paper, True, SHOP, (500, 0, 500, 0, 0, 0, 0, 0))

    def test_back_and_late_are_no_matter(self):
        paper = lasting(SHOP, DAY)
        for back, late in ((0, 9), (9, 0), (1000000, 1), (3, 1000000)):
            self.ask(paper, True, SHOP[:7] + (back, late))

    def test_shares_that_are_none(self):
        mean, worths, levels = lasting(SHOP, DAY)
        self.ask((mean, worths, levels), True)
        for at in range(4):
            top, bottom = mean if at == 3 else worths[at]
            wrong = [(top * many, bottom * many) for many in (2, 3, -1, 0, 10 ** 100)]
            wrong += [(top, 0), (top, -bottom), (-top, -bottom), (0, 0), (1, 0), (top,), (top, bottom, 1), [top, bottom],
                      (str(top), bottom), (top, str(bottom)), f"{top}/{bottom}", top, (), None, True, (None, bottom),
                      (top, None), ((top, bottom),), (top, True), (top, [bottom]), ((top,), bottom), {top: bottom}]
            for one in wrong:
                if at == 3:
                    self.ask((one, worths, levels), False)
                else:
                    self.ask((mean, put(worths, at, one), levels), False)

    def test_truths_in_the_place_of_like_numbers(self):
        shop, day = (1, 0, 0, 1, 0, 0, 1, 0, 0), (0, 1)
        self.ask(((1, 1), ((0, 1), (-1, 1)), (0, 1)), True, shop, day)
        self.ask(((1, 1), ((1, 1), (0, 1)), (1, 1)), True, shop, day)
        for paper in (((True, 1), ((0, 1), (-1, 1)), (0, 1)), ((1, True), ((0, 1), (-1, 1)), (0, 1)),
                      ((1, 1), ((False, 1), (-1, 1)), (0, 1)), ((1, 1), ((0, True), (-1, 1)), (0, 1)),
                      ((1, 1), ((0, 1), (-1, True)), (0, 1)), ((1, 1), ((0, 1), (-1, 1)), (False, 1)),
                      ((1, 1), ((0, 1), (-1, 1)), (0, True)), ((1, 1), ((0, 1), (-1, 1)), (True, 1)),
                      ((1, 1), ((True, 1), (0, 1)), (1, 1))):
            self.ask(paper, False, shop, day)

    def test_levels_that_are_none(self):
        mean, worths, levels = lasting(SHOP, DAY)
        for at in range(3):
            for level in (at - 2, -3, 2, 3, 40, GREAT, -GREAT):
                self.ask((mean, worths, put(levels, at, level)), False)

    def test_levels_beside_the_stocks_where_all_costs_alike(self):
        shop, day = (1, 1) + (0,) * 7, (1, 1, 1)
        worths = ((0, 1),) * 3
        for levels in product(range(-2, 4), repeat=3):
            fit = all([stock <= level <= 1 for stock, level in zip((-1, 0, 1), levels)])
            self.ask(((0, 1), worths, levels), fit, shop, day)

    def test_other_things_in_any_place(self):
        mean, worths, levels = lasting(SHOP, DAY)
        for thing in NO_WHOLES + OTHERS:
            self.ask(thing, False)
            self.ask((mean, worths, thing), False)
            self.ask((mean, thing, levels), False)
            if thing != mean or type(thing) is not tuple:
                self.ask((thing, worths, levels), False)
            for at in range(3):
                if thing != worths[at] or type(thing) is not tuple:
                    self.ask((mean, put(worths, at, thing), levels), False)
                if type(thing) is not int:
                    self.ask((mean, worths, put(levels, at, thing)), False)
                    self.ask((mean, put(worths, at, (thing, worths[at][1])), levels), False)
                    self.ask((mean, put(worths, at, (worths[at][0], thing)), levels), False)
            if type(thing) is not int:
                self.ask(((thing, mean[1]), worths, levels), False)
                self.ask(((mean[0], thing), worths, levels), False)

    def test_too_many_or_too_few(self):
        mean, worths, levels = lasting(SHOP, DAY)
        for thing in ((), (mean,), (mean, worths), (mean, levels), (worths, levels), (mean, worths, levels, levels),
                      (mean, mean, worths, levels), (mean, worths, levels, None), ((mean, worths, levels),),
                      (mean, levels, worths), (worths, mean, levels), (levels, worths, mean),
                      (mean, worths[1:], levels), (mean, worths[:-1], levels), (mean, worths + worths[2:], levels),
                      (mean, worths, levels[1:]), (mean, worths, levels[:-1]), (mean, worths, levels + (1,)),
                      (mean, worths[:-1], levels[:-1]), (mean, worths + worths[2:], levels + (1,)),
                      (mean, (), levels), (mean, worths, ()), (mean, (), ()),
                      [mean, worths, levels], (list(mean), worths, levels), (mean, list(worths), levels),
                      (mean, worths, list(levels)), (mean, [list(worth) for worth in worths], levels),
                      {0: mean, 1: worths, 2: levels}, (mean, dict(enumerate(worths)), levels)):
            self.ask(thing, False)

    def test_exchanged(self):
        mean, worths, levels = lasting(EIGHT_STOCKS, EIGHT_FALLS)
        self.assertEqual(len(set(worths)), 8)
        for at in range(8):
            for other in range(at):
                exchanged = put(put(worths, at, worths[other]), other, worths[at])
                self.ask((mean, exchanged, levels), False, EIGHT_STOCKS, EIGHT_FALLS)
        self.ask((mean, worths[::-1], levels), False, EIGHT_STOCKS, EIGHT_FALLS)

    def test_long_numbers(self):
        # Each worth another share of two hundred figures over as many.
        many = [10 ** 199 + 2 * at + 1 for at in range(9)]
        worths = tuple([as_share(Fraction(-number - 2, number)) for number in many[:8]])
        self.ask((as_share(Fraction(3, many[8])), worths, tuple(range(-3, 5))), False, EIGHT_STOCKS, EIGHT_FALLS)
        self.ask(((GREAT, GREAT - 1), ((-GREAT, 10 ** 199),) * 8, (4,) * 8), False, EIGHT_STOCKS, EIGHT_FALLS)


class NotLasting(unittest.TestCase):
    def ask(self, shop, day, wanted):
        levels = tuple(all_stocks(shop))
        worths = ((0, 1),) * len(levels)
        with self.subTest(shop=shop, day=day):
            for deed, handed in ((lasting, ()), (lasting_marks, ()), (mean_of, (levels,))):
                if wanted:
                    deed(shop, day, *handed)
                else:
                    assert_refused(self, NoMean, deed, shop, day, *handed)
            for thing in (None, (), [], "x", 7, True, ((0, 1), worths, levels), ((0, 1), worths), {"a": [1]}):
                if wanted:
                    self.assertIn(lets_lasting(shop, day, thing), (True, False))
                else:
                    assert_refused(self, NoMean, lets_lasting, shop, day, thing)

    def test_the_greatest_seen_fall(self):
        for top in range(8):
            for depth in range(8 - top):
                shop = (top, depth) + SHOP[2:]
                for fall in (top + depth - 1, top + depth, top + depth + 1):
                    if 0 <= fall <= 7:
                        day = (0,) * fall + (3,)
                        lasts = fall >= top + depth
                        self.ask(shop, day, lasts)
                        if fall:
                            self.ask(shop, put(day, 0, 1), lasts)
                        # Weights of 0 behind it don't count.
                        self.ask(shop, day + (0,) * (7 - fall), lasts)

    def test_whatever_the_thing_is(self):
        for thing in NO_WHOLES + OTHERS:
            assert_refused(self, NoMean, lets_lasting, (4, 4) + SHOP[2:], (1,) * 8, thing)
            assert_refused(self, NoMean, lets_lasting, SHOP, (1, 1), thing)
        assert_refused(self, NoMean, lets_lasting, SHOP, (1, 1, 0), lasting(SHOP, DAY))


class SoManyDays(unittest.TestCase):
    """Point 20's bounds, for shops whose end costs nothing."""

    def thrown(self, dice, reach):
        shop, day = thrown_lasting(dice, reach, dice.pick((3, 50)))
        return shop[:7] + (0, 0), day

    def bounds(self, paper, many, at):
        mean, numbers = as_number(paper[0]), [as_number(worth) for worth in paper[1]]
        about = many * mean + numbers[at]
        return about - max(numbers), about - min(numbers)

    def test_each_rule(self):
        dice = Dice(6)
        for _ in range(12):
            shop, day = self.thrown(dice, 2)
            paper = lasting(shop, day)
            for many in (1, 2):
                for rule in product(all_levels(shop), repeat=many):
                    for at, stock in enumerate(all_stocks(shop)):
                        low, high = self.bounds(paper, many, at)
                        self.assertGreaterEqual(as_number(cost_of(shop, (day,) * many, rule, stock)), low)

    def test_the_least_cost_and_the_told_levels(self):
        dice = Dice(7)
        for _ in range(40):
            shop, day = self.thrown(dice, 7)
            paper = lasting(shop, day)
            for many in (1, 2, 4, 6):
                falls = (day,) * many
                costs = least(shop, falls)[0]
                for at, stock in enumerate(all_stocks(shop)):
                    low, high = self.bounds(paper, many, at)
                    self.assertGreaterEqual(as_number(costs[at][0]), low)
                    told = as_number(cost_of(shop, falls, (paper[2],) * many, stock))
                    self.assertLessEqual(told, high)
                    self.assertGreaterEqual(told, low)

    def test_by_other_papers_that_are_let_by(self):
        # The bounds hold of each paper, moved and with other levels.
        dice = Dice(8)
        for _ in range(40):
            shop, day = thrown_ties(dice)
            shop = shop[:7] + (0, 0)
            mean, worths, levels = lasting(shop, day)
            for levels in list(product(*cheap_levels(shop, day, worths)))[:5]:
                paper = (mean, tuple([moved(worth, Fraction(7, 3)) for worth in worths]), levels)
                self.assertIs(lets_lasting(shop, day, paper), True)
                for at, stock in enumerate(all_stocks(shop)):
                    low, high = self.bounds(paper, 5, at)
                    told = as_number(cost_of(shop, (day,) * 5, (levels,) * 5, stock))
                    self.assertLessEqual(told, high)
                    self.assertGreaterEqual(told, low)

    def test_rules_that_look_back(self):
        dice = Dice(9)
        for _ in range(20):
            shop, day = self.thrown(dice, 3)
            paper = lasting(shop, day)
            choose = looking_back(dice.throw(0, 10 ** 6), shop[0])
            for at, stock in enumerate(all_stocks(shop)):
                low, high = self.bounds(paper, 3, at)
                self.assertGreaterEqual(cost_by_rows(shop, (day,) * 3, choose, stock), low)


class RightMarks(unittest.TestCase):
    def test_the_rule_by_them_is_let_by(self):
        dice = Dice(10)
        kinds = {"marks": 0, "none": 0}
        for count in range(800):
            shop, day = thrown_ties(dice) if count % 2 else thrown_lasting(dice, 7, dice.pick((3, 30)))
            if count % 4 == 0:
                # What is sold never is nearly free: here they are sometimes wrong.
                shop = (dice.throw(1, 3), dice.throw(1, 4), dice.throw(0, 10), dice.throw(0, 10), dice.throw(0, 5),
                        dice.throw(0, 30), dice.throw(0, 3), 0, 0)
                day = tuple([dice.pick((0, 1, dice.throw(0, 20))) for _ in range(7)]) + (dice.throw(1, 5),)
            name, lesser, greater = told_unchanged(self, lasting_marks, shop, day)
            kinds[name] += 1
            mean, worths, levels = lasting(shop, day)
            fit = cheap_levels(shop, day, worths)
            if name == "marks":
                by_marks = marked(shop, ((lesser, greater),))[0]
                self.assertEqual(mean_of(shop, day, by_marks), mean)
                self.assertIs(lets_lasting(shop, day, (mean, worths, by_marks)), True)
            else:
                # From greater, the greatest stock that must order, one below it doesn't order up to the same.
                self.assertNotIn(greater, fit[greater + shop[1]])
                self.assertNotIn(min(fit[greater + shop[1]]), fit[lesser + shop[1]])
                wrong = put(levels, lesser + shop[1], min(fit[greater + shop[1]]))
                self.assertIs(lets_lasting(shop, day, (mean, worths, wrong)), False)
        self.assertGreater(min(kinds.values()), 5, kinds)


if __name__ == "__main__":
    unittest.main()
