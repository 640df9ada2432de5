import unittest
from fractions import Fraction

from brute import Dice, as_share, thrown_falls, thrown_rule, thrown_shop
from things import told_unchanged
from twomarks.reader import read_falls, read_rule, read_share, read_shop, read_table
from twomarks.shares import times
from twomarks.table import least, rule_in
from twomarks.texts import show_falls, show_rule, show_share, show_shop, show_table

GREAT = 10 ** 400 - 1


class Shown(unittest.TestCase):
    def ask(self, show, thing, wanted, read=None):
        with self.subTest(show=show.__name__, thing=repr(thing)[:200]):
            told = told_unchanged(self, show, thing)
            self.assertIs(type(told), str)
            self.assertEqual(told, wanted)
            if read:
                self.assertEqual(repr(read(told)), repr(thing))
                self.assertEqual(show(read(told)), told)

    def test_shops(self):
        self.ask(show_shop, (5, 3, 100, 7, 2, 11, 1000, 3, 13), "5 3 100 7 2 11 1000 3 13", read_shop)
        self.ask(show_shop, (0,) * 9, "0 0 0 0 0 0 0 0 0", read_shop)
        self.ask(show_shop, (39, 0) + (1000000,) * 7, "39 0" + " 1000000" * 7, read_shop)

    def test_falls(self):
        self.ask(show_falls, ((1,),), "1", read_falls)
        self.ask(show_falls, ((0, 1000, 7), (3,), (2, 0)), "0,1000,7 3 2,0", read_falls)
        self.ask(show_falls, ((1,) * 8,) * 6, "1,1,1,1,1,1,1,1 " * 5 + "1,1,1,1,1,1,1,1", read_falls)

    def test_rules(self):
        self.ask(show_rule, ((0,),), "0", read_rule)
        self.ask(show_rule, ((-1, 0, 1), (2, 2, 2)), "-1,0,1 2,2,2", read_rule)
        self.ask(show_rule, ((-19,) + (20,) * 3, (-7,)), "-19,20,20,20 -7", read_rule)

    def test_shares(self):
        self.ask(show_share, (1, 2), "1/2", read_share)
        self.ask(show_share, (0, 1), "0/1", read_share)
        self.ask(show_share, (-3, 1), "-3/1", read_share)
        self.ask(show_share, (-10, 1001), "-10/1001", read_share)

    def test_tables(self):
        self.ask(show_table, ((((1, 2), 3),),), "1/2@3", read_table)
        self.ask(show_table, ((((1, 2), 3), ((-5, 1), -4)), (((0, 1), 0),)), "1/2@3 -5/1@-4\n0/1@0", read_table)
        self.ask(show_table, ((((45, 4), 1), ((33, 4), 0), ((9, 4), 1), ((3, 2), 2)),
                              (((9, 1), 1), ((7, 2), 0), ((0, 1), 1), ((0, 1), 2))),
                 "45/4@1 33/4@0 9/4@1 3/2@2\n9/1@1 7/2@0 0/1@1 0/1@2", read_table)

    def test_numbers_of_all_lengths(self):
        for length in list(range(1, 70)) + [127, 128, 129, 191, 192, 193, 199, 200, 256, 320, 399, 400]:
            for number in (10 ** (length - 1), 10 ** length - 1, 10 ** length // 7, 10 ** (length - 1) + 1):
                figures = str(number)
                self.ask(show_share, (number, 1), figures + "/1", read_share)
                self.ask(show_share, (-number, 1), f"-{figures}/1", read_share)
                self.ask(show_share, (1, number), "1/" + figures, read_share)
                self.ask(show_rule, ((number, -number),), f"{figures},-{figures}", read_rule)
                self.ask(show_table, ((((1, number), -number),),), f"1/{figures}@-{figures}", read_table)

    def test_longer_than_are_read(self):
        # What was told may be handed in again, whatever its size.
        one = (10 ** 199 + 1, 3)
        for _ in range(6):
            one = times(one, one)
        told = show_share(one)
        top, bottom = told.split("/")
        self.assertEqual(bottom, str(3 ** 64))
        self.assertEqual(len(top), 199 * 64 + 1)
        self.assertTrue(top.isdigit())
        left = 0
        for at in range(0, len(top), 1000):
            left = left * 10 ** len(top[at:at + 1000]) + int(top[at:at + 1000])
        self.assertEqual(left, one[0])


class ReadBack(unittest.TestCase):
    def ask(self, show, read, thing):
        with self.subTest(thing=repr(thing)[:200]):
            told = told_unchanged(self, show, thing)
            self.assertEqual(repr(told_unchanged(self, read, told)), repr(thing))
            self.assertEqual(show(read(told)), told)

    def test_thrown_things(self):
        dice = Dice(1)
        for _ in range(150):
            shop, falls = thrown_shop(dice, 39, 1000000), thrown_falls(dice, 6, 8)
            self.ask(show_shop, read_shop, shop)
            self.ask(show_falls, read_falls, falls)
            self.ask(show_rule, read_rule, thrown_rule(dice, shop, falls))
            top, bottom = dice.throw(0, 10 ** 9), dice.throw(1, 10 ** 6)
            self.ask(show_share, read_share, as_share(Fraction(top, bottom)))
            self.ask(show_share, read_share, as_share(Fraction(-top, bottom)))

    def test_told_tables_and_their_rules(self):
        dice = Dice(2)
        for _ in range(60):
            shop, falls = thrown_shop(dice, 12, dice.pick((3, 1000000))), thrown_falls(dice, 6, 8)
            self.ask(show_table, read_table, least(shop, falls))
            self.ask(show_rule, read_rule, rule_in(least(shop, falls)))
        falls = tuple([tuple([1000 - t - fall for fall in range(8)]) for t in range(6)])
        self.ask(show_table, read_table, least((20, 19) + (999983,) * 7, falls))

    def test_lines_that_are_not_alike_long(self):
        self.ask(show_table, read_table, ((((1, 2), 3),) * 5, (((0, 1), -GREAT),), (((GREAT, 2), GREAT),) * 2))
        self.ask(show_rule, read_rule, ((1,), (2, 3, 4), (-GREAT, GREAT)))


if __name__ == "__main__":
    unittest.main()
