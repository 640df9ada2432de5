import unittest

from brute import Dice, all_stocks, fallen, ordered, thrown_falls, thrown_rule, thrown_shop
from things import NO_WHOLES, OTHERS, assert_refused, assert_whole
from twomarks.book import Book
from twomarks.errors import NoBack, NoFall, NoLevel
from twomarks.runs import run

# Stocks from -1 to 2.
SHOP = (2, 1, 5, 2, 1, 4, 10, 1, 3)
GREAT = 10 ** 30 - 1


def replayed(shop, stock, deeds):
    """The stock, what is paid, the days and the chosen level, by all deeds from the first on."""
    paid, days, chosen = 0, [], None
    for name, number in deeds:
        if name == "choose":
            chosen = number
            paid += ordered(shop, stock, number)
        else:
            level = stock if chosen is None else chosen
            after, cost = fallen(shop, level, number)
            paid += cost
            days.append((stock, level, number, ordered(shop, stock, level) + cost))
            stock, chosen = after, None
    return stock, paid, days, chosen


class Kept(unittest.TestCase):
    def look_at(self, book, stock, paid, days):
        for _ in range(2):
            assert_whole(self, book.stock(), stock)
            assert_whole(self, book.paid(), paid)
            told = book.days()
            self.assertIs(type(told), list)
            self.assertEqual(repr(told), repr(days))
            for day in told:
                self.assertIs(type(day), tuple)

    def done(self, told):
        """Nothing comes back of a deed."""
        self.assertIsNone(told)

    def refused(self, book, error, deed, *handed):
        kept = (book.stock(), book.paid(), book.days())
        assert_refused(self, error, deed, *handed)
        self.look_at(book, *kept)

    def test_a_written_book(self):
        book = Book(SHOP, -1)
        self.look_at(book, -1, 0, [])
        # The order is paid at once; the stock is that of the morning till the fall.
        self.done(book.choose(1))
        self.look_at(book, -1, 9, [])
        self.done(book.fall(1))
        self.look_at(book, 0, 9, [(-1, 1, 1, 9)])
        # Nothing is ordered.
        self.done(book.fall(1))
        self.look_at(book, -1, 13, [(-1, 1, 1, 9), (0, 0, 1, 4)])
        # Two are sold never.
        self.done(book.choose(-1))
        self.look_at(book, -1, 13, [(-1, 1, 1, 9), (0, 0, 1, 4)])
        self.done(book.fall(2))
        self.look_at(book, -1, 37, [(-1, 1, 1, 9), (0, 0, 1, 4), (-1, -1, 2, 24)])
        self.done(book.choose(2))
        self.look_at(book, -1, 48, [(-1, 1, 1, 9), (0, 0, 1, 4), (-1, -1, 2, 24)])
        self.done(book.fall(0))
        self.look_at(book, 2, 50, [(-1, 1, 1, 9), (0, 0, 1, 4), (-1, -1, 2, 24), (-1, 2, 0, 13)])

    def test_taken_back_to_the_first(self):
        book = Book(SHOP, -1)
        seen = []
        for deed, number in ((book.choose, 1), (book.fall, 1), (book.fall, 1), (book.choose, -1), (book.fall, 2),
                             (book.choose, 2), (book.fall, 0), (book.fall, 0), (book.choose, 2)):
            seen.append((book.stock(), book.paid(), book.days()))
            deed(number)
        while seen:
            self.done(book.back())
            self.look_at(book, *seen.pop())
        self.refused(book, NoBack, book.back)

    def test_the_stock_itself_is_a_level(self):
        for stock in all_stocks(SHOP):
            book = Book(SHOP, stock)
            self.done(book.choose(stock))
            self.look_at(book, stock, 0, [])
            # It is chosen, so a second one isn't taken, and taking back takes back the choice alone.
            self.refused(book, NoLevel, book.choose, stock)
            self.refused(book, NoLevel, book.choose, 2)
            self.done(book.back())
            self.refused(book, NoBack, book.back)
            self.done(book.choose(2))

    def test_a_choice_comes_again_with_its_day(self):
        for level in (0, 1, 2):
            book = Book(SHOP, 0)
            book.choose(level)
            before = book.paid()
            book.fall(1)
            book.back()
            self.look_at(book, 0, before, [])
            self.refused(book, NoLevel, book.choose, 2)
            book.fall(0)
            self.assertEqual(book.days()[0][:3], (0, level, 0))
            book.back()
            book.back()
            self.look_at(book, 0, 0, [])
            self.refused(book, NoBack, book.back)
        book = Book(SHOP, 0)
        book.fall(1)
        book.back()
        # No level was chosen on this day, so one may be.
        self.done(book.choose(1))
        self.refused(book, NoLevel, book.choose, 1)

    def test_another_way_behind_what_was_taken_back(self):
        book = Book(SHOP, 0)
        book.choose(2)
        book.fall(3)
        book.back()
        book.fall(0)
        self.look_at(book, 2, 11, [(0, 2, 0, 11)])
        book.back()
        book.back()
        book.fall(0)
        self.look_at(book, 0, 0, [(0, 0, 0, 0)])

    def test_levels_that_are_none(self):
        for stock in all_stocks(SHOP):
            for level in list(range(-4, 6)) + [GREAT, -GREAT]:
                book = Book(SHOP, stock)
                if stock <= level <= 2:
                    self.done(book.choose(level))
                    self.look_at(book, stock, ordered(SHOP, stock, level), [])
                else:
                    self.refused(book, NoLevel, book.choose, level)
                    self.refused(book, NoBack, book.back)
                    self.done(book.choose(2))

    def test_levels_and_falls_of_whatever_kind(self):
        for thing in NO_WHOLES + OTHERS:
            for chosen in (False, True):
                book = Book(SHOP, 0)
                book.fall(0)
                if chosen:
                    book.choose(1)
                if type(thing) is not int or thing not in (0, 1, 2) or chosen:
                    self.refused(book, NoLevel, book.choose, thing)
                if type(thing) is not int or thing < 0:
                    self.refused(book, NoFall, book.fall, thing)
                self.done(book.back())
                self.assertEqual(len(book.days()), chosen)

    def test_falls(self):
        for many in (0, 1, 2, 3, 4, 7, 8, 1000):
            book = Book(SHOP, 2)
            self.done(book.fall(many))
            after, cost = fallen(SHOP, 2, many)
            self.look_at(book, after, cost, [(2, 2, many, cost)])
        book = Book(SHOP, 2)
        self.done(book.fall(GREAT))
        self.look_at(book, -1, 4 + 10 * (GREAT - 3), [(2, 2, GREAT, 4 + 10 * (GREAT - 3))])
        for many in (-1, -2, -GREAT):
            self.refused(book, NoFall, book.fall, many)

    def test_nothing_to_take_back(self):
        book = Book(SHOP, 1)
        for _ in range(3):
            self.refused(book, NoBack, book.back)
        book.fall(0)
        book.back()
        self.refused(book, NoBack, book.back)

    def test_the_told_list_is_the_asker_s_own(self):
        book = Book(SHOP, 1)
        book.fall(1)
        told = book.days()
        told.append("x")
        told[0] = None
        self.look_at(book, 0, 0, [(1, 1, 1, 0)])
        kept = book.days()
        book.fall(1)
        self.assertEqual(kept, [(1, 1, 1, 0)])
        book.back()
        book.back()
        self.assertEqual(kept, [(1, 1, 1, 0)])
        told = book.days()
        told.append((0, 0, 0, 0))
        self.refused(book, NoBack, book.back)

    def test_two_books_beside_one_another(self):
        one, other = Book(SHOP, 1), Book(SHOP, 1)
        one.choose(2)
        one.fall(2)
        self.look_at(other, 1, 0, [])
        self.refused(other, NoBack, other.back)
        other.choose(1)
        one.back()
        self.look_at(one, 1, 7, [])
        other.back()
        self.look_at(one, 1, 7, [])
        self.refused(one, NoLevel, one.choose, 2)

    def test_thrown_deeds(self):
        dice = Dice(1)
        for _ in range(40):
            shop = thrown_shop(dice, 8, dice.pick((3, 1000000)))
            stock = dice.pick(all_stocks(shop))
            book, deeds = Book(shop, stock), []
            for _ in range(60):
                now, paid, days, chosen = replayed(shop, stock, deeds)
                self.look_at(book, now, paid, days)
                kind = dice.throw(0, 3)
                if kind == 0:
                    level = dice.throw(now - 1, shop[0] + 1)
                    if chosen is None and now <= level <= shop[0]:
                        self.done(book.choose(level))
                        deeds.append(("choose", level))
                    else:
                        self.refused(book, NoLevel, book.choose, level)
                elif kind == 1:
                    fall = dice.throw(-1, 8)
                    if fall >= 0:
                        self.done(book.fall(fall))
                        deeds.append(("fall", fall))
                    else:
                        self.refused(book, NoFall, book.fall, fall)
                elif kind == 2 and deeds:
                    self.done(book.back())
                    deeds.pop()
                elif not deeds:
                    self.refused(book, NoBack, book.back)

    def test_hundreds_of_deeds(self):
        dice = Dice(2)
        shop = (5, 4, 20, 3, 1, 7, 50, 2, 2)
        book, deeds = Book(shop, 3), []
        for _ in range(600):
            now = book.stock()
            if dice.throw(0, 1):
                level = dice.throw(now, 5)
                book.choose(level)
                deeds.append(("choose", level))
            fall = dice.throw(0, 7)
            book.fall(fall)
            deeds.append(("fall", fall))
        self.look_at(book, *replayed(shop, 3, deeds)[:3])
        while deeds:
            book.back()
            deeds.pop()
            if len(deeds) % 50 < 3:
                self.look_at(book, *replayed(shop, 3, deeds)[:3])
        self.refused(book, NoBack, book.back)

    def test_like_a_run(self):
        dice = Dice(3)
        for _ in range(60):
            shop, falls = thrown_shop(dice, 8, 50), thrown_falls(dice, 6, 8)
            rule = thrown_rule(dice, shop, falls)
            stock = dice.pick(all_stocks(shop))
            row = tuple([dice.throw(0, 9) for _ in falls])
            book = Book(shop, stock)
            for levels, fall in zip(rule, row):
                level = levels[book.stock() + shop[1]]
                # Without an order a level needn't be chosen.
                if level != book.stock() or dice.throw(0, 1):
                    book.choose(level)
                book.fall(fall)
            self.assertEqual(book.days(), run(shop, rule, stock, row))
            self.assertEqual(book.paid(), sum([cost for now, level, fall, cost in book.days()]))


if __name__ == "__main__":
    unittest.main()
