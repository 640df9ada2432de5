import math
import unittest
from fractions import Fraction

from things import NO_WHOLES, OTHERS, assert_truth, told_unchanged
from twomarks.errors import NoShare, ShopError
from twomarks.shares import below, is_share, plus, share, times

GREAT = 10 ** 200 - 1
# Two powers have no common divisor, and each has close to two hundred figures.
TWOS = 2 ** 660
THREES = 3 ** 415


def neighbours(count):
    """Two numbers for which the search of the common divisor takes as many steps as it may."""
    low, high = 1, 1
    for _ in range(count):
        low, high = high, low + high
    return low, high


SHORT, LONG = neighbours(950)

SHARES = (
    (0, 1), (1, 1), (-1, 1), (1, 2), (-1, 2), (2, 3), (-2, 3), (7, 1), (-7, 1), (1, 6), (5, 6), (-5, 6), (3, 10),
    (1000000, 7), (1, GREAT), (-1, GREAT), (GREAT, 1), (-GREAT, 1), (TWOS, THREES), (-TWOS, THREES),
    (THREES, TWOS), (SHORT, LONG), (-LONG, SHORT), (GREAT - 1, GREAT), (GREAT, GREAT - 1), (-GREAT, GREAT - 1),
)

NUMBERS = (1, 2, 3, 4, 6, 12, 35, 97, 1000000, TWOS, THREES, SHORT, LONG, GREAT - 1, GREAT)


def assert_share(case, told, value):
    """Just the share that stands for the value."""
    case.assertIs(type(told), tuple)
    case.assertEqual([type(part) for part in told], [int, int])
    case.assertEqual(told, (value.numerator, value.denominator))
    case.assertGreaterEqual(told[1], 1)
    case.assertEqual(math.gcd(told[0], told[1]), 1)


class IsShare(unittest.TestCase):
    def test_shares(self):
        for one in SHARES:
            with self.subTest(one):
                assert_truth(self, told_unchanged(self, is_share, one), True)

    def test_small_pairs(self):
        for top in range(-13, 14):
            for bottom in range(-13, 14):
                with self.subTest(top=top, bottom=bottom):
                    wanted = bottom >= 1 and math.gcd(top, bottom) == 1
                    assert_truth(self, is_share((top, bottom)), wanted)

    def test_not_in_lowest_terms(self):
        for thing in ((0, 2), (2, 2), (-2, 2), (2, 4), (-2, 4), (6, 3), (35, 49), (0, GREAT), (GREAT, GREAT),
                      (-GREAT, GREAT), (GREAT, 3), (TWOS, 2), (2 * (10 ** 199), 10 ** 199), (6 * SHORT, 2 * LONG)):
            with self.subTest(thing):
                assert_truth(self, is_share(thing), False)

    def test_bottom_below_one(self):
        for top in (0, 1, -1, 2, 7, GREAT, -GREAT):
            for bottom in (0, -1, -2, -3, -GREAT, -TWOS):
                with self.subTest(top=top, bottom=bottom):
                    assert_truth(self, is_share((top, bottom)), False)

    def test_another_thing_in_the_place_of_a_part(self):
        for thing in NO_WHOLES:
            for pair in ((thing, 1), (1, thing), (0, thing), (thing, 2), (thing, thing), (thing, 0), (GREAT, thing)):
                with self.subTest(repr(pair)):
                    assert_truth(self, told_unchanged(self, is_share, pair), False)

    def test_another_number_of_parts(self):
        for thing in ((), (1,), (0,), (1, 2, 1), (0, 1, 1), (1, 1, 1), (1, 2, 3, 5), ((1, 2),), ((1, 2), (1, 3))):
            with self.subTest(thing):
                assert_truth(self, is_share(thing), False)

    def test_a_list_for_the_tuple(self):
        for one in SHARES:
            with self.subTest(one):
                assert_truth(self, told_unchanged(self, is_share, list(one)), False)

    def test_other_things(self):
        for thing in OTHERS:
            with self.subTest(repr(thing)[:60]):
                assert_truth(self, told_unchanged(self, is_share, thing), False)


class Share(unittest.TestCase):
    def test_either_sign_of_either_number(self):
        self.assertEqual(share(6, 4), (3, 2))
        self.assertEqual(share(-6, 4), (-3, 2))
        self.assertEqual(share(6, -4), (-3, 2))
        self.assertEqual(share(-6, -4), (3, 2))
        self.assertEqual(share(7, 1), (7, 1))
        self.assertEqual(share(7, -1), (-7, 1))

    def test_nought_over_a_number(self):
        for bottom in NUMBERS:
            for signed in (bottom, -bottom):
                with self.subTest(signed):
                    assert_share(self, told_unchanged(self, share, 0, signed), Fraction(0))

    def test_small_numbers(self):
        for top in range(-30, 31):
            for bottom in range(-30, 31):
                if bottom:
                    with self.subTest(top=top, bottom=bottom):
                        assert_share(self, share(top, bottom), Fraction(top, bottom))

    def test_great_numbers(self):
        for top in NUMBERS:
            for bottom in NUMBERS:
                for signed in (top, -top):
                    with self.subTest(top=signed, bottom=bottom):
                        told = told_unchanged(self, share, signed, bottom)
                        assert_share(self, told, Fraction(signed, bottom))
                        self.assertEqual(share(-signed, -bottom), told)
                        assert_truth(self, is_share(told), True)

    def test_both_times_a_number(self):
        for one in SHARES:
            for factor in NUMBERS:
                with self.subTest(one=one, factor=factor):
                    self.assertEqual(share(one[0] * factor, one[1] * factor), one)
                    self.assertEqual(share(one[0] * -factor, one[1] * -factor), one)

    def test_common_divisor_after_many_steps(self):
        self.assertEqual(len(str(LONG)), 199)
        self.assertEqual(share(SHORT, LONG), (SHORT, LONG))
        low, high = neighbours(20000)
        self.assertEqual(share(low * 6, high * -6), (-low, high))
        self.assertEqual(share(high * 6, low * 6), (high, low))

    def test_refused_over_nought(self):
        for top in (0, 1, -1, 7, GREAT, -GREAT):
            with self.subTest(top):
                with self.assertRaises(NoShare):
                    share(top, 0)
                with self.assertRaises(ShopError):
                    share(top, 0)


class PlusAndTimes(unittest.TestCase):
    def test_written_sums(self):
        self.assertEqual(plus((1, 2), (1, 3)), (5, 6))
        self.assertEqual(plus((1, 6), (1, 3)), (1, 2))
        self.assertEqual(plus((1, 2), (1, 2)), (1, 1))
        self.assertEqual(plus((-1, 2), (1, 3)), (-1, 6))
        self.assertEqual(plus((3, 1), (0, 1)), (3, 1))

    def test_written_products(self):
        self.assertEqual(times((1, 2), (2, 3)), (1, 3))
        self.assertEqual(times((-1, 2), (2, 3)), (-1, 3))
        self.assertEqual(times((-1, 2), (-2, 1)), (1, 1))
        self.assertEqual(times((5, 7), (0, 1)), (0, 1))
        self.assertEqual(times((5, 7), (1, 1)), (5, 7))

    def test_all_pairs(self):
        for one in SHARES:
            for other in SHARES:
                with self.subTest(one=one, other=other):
                    total = told_unchanged(self, plus, one, other)
                    product = told_unchanged(self, times, one, other)
                    assert_share(self, total, Fraction(*one) + Fraction(*other))
                    assert_share(self, product, Fraction(*one) * Fraction(*other))
                    self.assertEqual(plus(other, one), total)
                    self.assertEqual(times(other, one), product)

    def test_opposite_shares(self):
        for top, bottom in SHARES:
            with self.subTest(top=top, bottom=bottom):
                self.assertEqual(plus((top, bottom), (-top, bottom)), (0, 1))
                self.assertEqual(plus((-top, bottom), (top, bottom)), (0, 1))

    def test_reversed_shares(self):
        for top, bottom in SHARES:
            if top > 0:
                with self.subTest(top=top, bottom=bottom):
                    self.assertEqual(times((top, bottom), (bottom, top)), (1, 1))

    def test_what_was_told_is_handed_in_again(self):
        total, product = (0, 1), (1, 1)
        value, by_value = Fraction(0), Fraction(1)
        for one in SHARES:
            total, value = plus(total, one), value + Fraction(*one)
            if one[0]:
                product, by_value = times(product, one), by_value * Fraction(*one)
            assert_share(self, total, value)
            assert_share(self, product, by_value)
            assert_truth(self, is_share(total), True)
        self.assertGreater(total[1].bit_length(), 2000)
        assert_truth(self, below(total, plus(total, (1, GREAT))), True)


class Below(unittest.TestCase):
    def test_written_pairs(self):
        assert_truth(self, below((1, 3), (1, 2)), True)
        assert_truth(self, below((1, 2), (1, 3)), False)
        assert_truth(self, below((-1, 2), (-1, 3)), True)
        assert_truth(self, below((-1, 3), (-1, 2)), False)
        assert_truth(self, below((-1, 2), (1, 3)), True)
        assert_truth(self, below((0, 1), (1, GREAT)), True)
        assert_truth(self, below((-1, GREAT), (0, 1)), True)

    def test_two_that_are_alike(self):
        for one in SHARES:
            with self.subTest(one):
                assert_truth(self, below(one, tuple(list(one))), False)

    def test_all_pairs(self):
        for one in SHARES:
            for other in SHARES:
                with self.subTest(one=one, other=other):
                    told = told_unchanged(self, below, one, other)
                    assert_truth(self, told, Fraction(*one) < Fraction(*other))

    def test_shares_that_differ_by_very_little(self):
        less, more = (GREAT - 1, GREAT), (GREAT, GREAT + 1)
        assert_truth(self, below(less, more), True)
        assert_truth(self, below(more, less), False)
        less, more = (-GREAT, GREAT - 1), (-GREAT - 1, GREAT)
        assert_truth(self, below(less, more), True)
        assert_truth(self, below(more, less), False)
        for one in SHARES:
            with self.subTest(one):
                more = plus(one, (1, GREAT))
                assert_truth(self, below(one, more), True)
                assert_truth(self, below(more, one), False)


if __name__ == "__main__":
    unittest.main()
