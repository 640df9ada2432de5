import unittest

from brute import Dice, all_stocks, thrown_falls, thrown_lasting, thrown_shop
from things import NO_WHOLES, OTHERS, assert_refused
from twomarks.desk import Desk
from twomarks.errors import NoBack, NoFall, NoLevel, NoMean, NoRow, NoText
from twomarks.ever import lasting
from twomarks.marks import marks
from twomarks.table import least
from twomarks.texts import show_falls, show_share, show_shop, show_table

# Stocks from -1 to 2.
SHOP = "2 1 5 2 1 4 10 1 3"
FALLS = "1,1 1,1"
TABLE = "45/4@1 33/4@0 9/4@1 3/2@2; 9/1@1 7/2@0 0/1@1 0/1@2"
ROWS_ALONE = ("table", "back", "stock", "paid", "days")
ROWS_OF_ONE = ("cost", "mean", "choose", "fall")
ROWS_OF_TWO = ("level", "marks")
NEED_FALLS = ("cost", "level", "marks", "table", "lets")
# Not written as a number must be.
NO_NUMBERS = ("", "x", "-", "+1", "-0", "00", "01", "1.0", "1,1", "1/1", "1\n", "\n", "--1", "1_0", "9" * 401, "9" * 4400,
              "-" + "9" * 401)


def seen(desk):
    """All that the desk tells of itself."""
    told = [desk.say("stock"), desk.say("paid"), desk.say("days")]
    try:
        told.append(desk.say("table"))
    except NoRow:
        told.append(None)
    return told


def desk_with(falls=FALLS, shop=SHOP):
    desk = Desk(shop)
    desk.say(f"falls {falls}")
    return desk


class Said(unittest.TestCase):
    def ask(self, desk, row, wanted):
        with self.subTest(row=row[:200]):
            told = desk.say(row)
            self.assertIs(type(told), str)
            self.assertEqual(told, wanted)

    def refused(self, desk, error, row):
        with self.subTest(row=repr(row)[:200]):
            before = seen(desk)
            assert_refused(self, error, desk.say, row)
            self.assertEqual(seen(desk), before)


class Rows(Said):
    def test_each_row(self):
        desk = Desk(SHOP)
        for row, wanted in (("falls 1,1 1,1", "ok"), ("cost -1", "45/4"), ("cost 2", "3/2"), ("level 0 -1", "1"),
                            ("level 1 0", "0"), ("marks 0 -1", "marks 0 1"), ("marks 1 0", "marks 0 0"),
                            ("table", TABLE), (f"lets {TABLE}", "yes"), ("lets 1/2@3", "no"),
                            ("mean 0,0,0,1", "15/1"), ("stock", "0"), ("paid", "0"), ("days", "none"),
                            ("choose 1", "ok"), ("stock", "0"), ("paid", "7"), ("days", "none"), ("fall 2", "ok"),
                            ("stock", "-1"), ("paid", "11"), ("days", "0>1-2:11"), ("choose -1", "ok"), ("fall 2", "ok"),
                            ("days", "0>1-2:11 -1>-1-2:24"), ("paid", "35"), ("back", "ok"), ("paid", "11"),
                            ("days", "0>1-2:11"), ("back", "ok"), ("back", "ok"), ("days", "none"), ("paid", "7"),
                            ("back", "ok"), ("paid", "0"), ("stock", "0")):
            self.ask(desk, row, wanted)

    def test_marks_that_are_none(self):
        desk = desk_with("0,0,1", "1 2 2 3 0 8 0 0 0")
        self.ask(desk, "marks 0 -2", "none -2 0")
        self.ask(desk, "marks 0 -1", "marks 1 1")
        self.ask(desk_with("1,0,0,0,0,0,1", "5 2 0 0 4 10 0 0 0"), "marks 0 -2", "none 2 4")

    def test_thrown_answers(self):
        dice = Dice(1)
        for _ in range(60):
            shop, falls = thrown_shop(dice, 6, dice.pick((5, 1000000))), thrown_falls(dice, 4, 5)
            table = least(shop, falls)
            desk = desk_with(show_falls(falls), show_shop(shop))
            for at, stock in enumerate(all_stocks(shop)):
                self.ask(desk, f"cost {stock}", show_share(table[0][at][0]))
                for t in range(len(falls)):
                    self.ask(desk, f"level {t} {stock}", str(table[t][at][1]))
                    self.ask(desk, f"marks {t} {stock}", " ".join([str(part) for part in marks(shop, falls, t, stock)]))
            self.ask(desk, "table", show_table(table).replace("\n", "; "))
            self.ask(desk, "lets " + show_table(table).replace("\n", "; "), "yes")

    def test_falls_kept_anew(self):
        desk = Desk(SHOP)
        for falls in (((1, 1), (1, 1)), ((0, 1),), ((2, 3, 4),) * 6, ((1,),)):
            self.ask(desk, f"falls {show_falls(falls)}", "ok")
            self.ask(desk, "table", show_table(least((2, 1, 5, 2, 1, 4, 10, 1, 3), falls)).replace("\n", "; "))
            for text in ("", "x", "0", "1001", "1,1,1,1,1,1,1,1,1", "1 1 1 1 1 1 1", "1  1", " 1", "1 ", "1,", "1\n", "1 1\n1"):
                self.refused(desk, NoText, f"falls {text}")

    def test_mean(self):
        dice = Dice(2)
        for _ in range(40):
            shop, day = thrown_lasting(dice, 7, 100)
            for desk in (Desk(show_shop(shop)), desk_with("1,1 3", show_shop(shop))):
                self.ask(desk, f"mean {show_falls((day,))}", show_share(lasting(shop, day)[0]))
        for desk in (Desk(SHOP), desk_with()):
            for word in ("1", "1,1,1", "0,0,1", "1,1,1,0", "1,1,1,0,0,0,0,0"):
                self.refused(desk, NoMean, f"mean {word}")
            for word in ("", "x", "0", "0,0,0,0", "1,1,1,1001", "1,1,1,1,1,1,1,1,1", "1,1,1,01", "1,1,1,-1", ",1,1,1", "1,1,1,",
                         "1,1,1,1\n", "1;1;1;1", "9" * 401, "9" * 4400, "1/2", "1,1,1,1/1"):
                self.refused(desk, NoText, f"mean {word}")
            self.refused(desk, NoRow, "mean 1,1,1,1 1")
            self.refused(desk, NoRow, "mean 1 x")
            self.refused(desk, NoRow, "mean")
            # The mean leaves the kept falls as they are.
            self.ask(desk, "mean 1,1,1,1", show_share(lasting((2, 1, 5, 2, 1, 4, 10, 1, 3), (1, 1, 1, 1))[0]))

    def test_lets(self):
        desk = desk_with()
        self.ask(desk, f"lets {TABLE}", "yes")
        for text, wanted in ((TABLE.replace("45/4", "23/2"), "no"), (TABLE.replace("@1 33", "@0 33"), "no"),
                             (TABLE.split("; ")[0], "no"), (f"{TABLE}; {TABLE}", "no"), ("0/1@0", "no"),
                             (TABLE.replace("; ", " "), "no"), (TABLE.replace("@1 33", "@-100 33"), "no"),
                             ("; ".join(TABLE.split("; ")[::-1]), "no"), ("9" * 400 + "/1@0", "no")):
            self.ask(desk, f"lets {text}", wanted)
        for text in ("", " ", ";", "; ", f"{TABLE}; ", f"; {TABLE}", f"{TABLE} ", f" {TABLE}", f"{TABLE};", TABLE.replace("; ", ";"),
                     TABLE.replace("; ", "\n"), TABLE.replace("; ", ";\n"), TABLE.replace("; ", "; \n"),
                     TABLE.replace("; ", ";  "), TABLE.replace("; ", " ; "), TABLE.replace("; ", "; ; "),
                     TABLE.replace("; ", ";; "), f"{TABLE}\n", f"\n{TABLE}", TABLE.replace("45/4", "90/8"),
                     TABLE.replace("@", ""), TABLE.replace("45/4", "045/4"), "1/2", "1", "yes", "9" * 401 + "/1@0",
                     "1/2@" + "9" * 4400):
            self.refused(desk, NoText, f"lets {text}")
        # Another paper that is as cheap: the order costs just what it spares.
        desk = desk_with("0,1", "1 0 9 0 0 0 9 0 0")
        self.ask(desk, "lets 9/1@0 0/1@1", "yes")
        self.ask(desk, "lets 9/1@1 0/1@1", "yes")
        self.ask(desk, "lets 9/1@1 0/1@0", "no")

    def test_a_book_s_rows(self):
        desk = Desk(SHOP)
        self.refused(desk, NoBack, "back")
        for level in (-1, 3, -100, 10 ** 30, -10 ** 30, 10 ** 400 - 1):
            self.refused(desk, NoLevel, f"choose {level}")
        self.ask(desk, "choose 0", "ok")
        for level in (0, 1, 2, 3, -5):
            self.refused(desk, NoLevel, f"choose {level}")
        for fall in (-1, -2, -10 ** 30, -(10 ** 400 - 1)):
            self.refused(desk, NoFall, f"fall {fall}")
        self.ask(desk, "fall 0", "ok")
        self.ask(desk, "days", "0>0-0:0")
        self.ask(desk, "choose 2", "ok")
        self.ask(desk, "paid", "9")
        self.ask(desk, "fall 7", "ok")
        self.ask(desk, "paid", "53")
        self.ask(desk, "stock", "-1")
        self.ask(desk, "days", "0>0-0:0 0>2-7:53")
        for _ in range(4):
            self.ask(desk, "back", "ok")
        for _ in range(2):
            self.refused(desk, NoBack, "back")

    def test_a_fall_of_four_hundred_figures(self):
        desk = Desk(SHOP)
        great = 10 ** 400 - 1
        self.ask(desk, f"fall {great}", "ok")
        self.ask(desk, "stock", "-1")
        paid = 4 + 10 * (great - 1)
        self.ask(desk, "paid", str(paid))
        self.ask(desk, "days", f"0>0-{great}:{paid}")
        self.refused(desk, NoText, f"fall {great + 1}")
        self.ask(desk, "back", "ok")
        self.ask(desk, "paid", "0")

    def test_two_desks_beside_one_another(self):
        one, other = Desk(SHOP), Desk(SHOP)
        one.say("falls 1,1")
        one.say("fall 1")
        self.refused(other, NoRow, "table")
        self.refused(other, NoBack, "back")
        self.ask(one, "days", "0>0-1:4")

    def test_asked_again_alike(self):
        desk = desk_with()
        desk.say("choose 1")
        desk.say("fall 1")
        rows = ("cost 0", "level 0 0", "marks 0 -1", "table", f"lets {TABLE}", "mean 1,1,1,1", "stock", "paid", "days")
        told = [desk.say(row) for row in rows]
        self.assertEqual([desk.say(row) for row in rows[::-1]], told[::-1])


class Refusals(Said):
    def test_no_text_at_all(self):
        for desk in (Desk(SHOP), desk_with()):
            for thing in NO_WHOLES + OTHERS + (["stock"], ("stock",), {"stock": 1}, ["cost", "1"], ("cost", 1)):
                self.refused(desk, NoRow, thing)

    def test_another_first_word(self):
        for desk in (Desk(SHOP), desk_with()):
            for row in ("", " ", "  ", "x", "Stock", "stocks", "stoc", "STOCK", "cos 1", "costs 1", "Cost 1", " stock", "\nstock",
                        "stock\n", "table\n", "stock\nstock", "cost\n1", "falls\n1", "lets\n1/2@3", " cost 1", "-", "1", "ok",
                        "help", "least 1", "fall\t1", "level,0,0", "x" * 50000, "1 2 3", "fall s 1", "mean\n1"):
                self.refused(desk, NoRow, row)

    def test_words_too_many_or_too_few(self):
        for desk in (Desk(SHOP), desk_with()):
            for word in ROWS_ALONE:
                for row in (f"{word} ", f"{word}  ", f"{word} 1", f"{word} x", f"{word} 1 2", f"{word} {word}"):
                    self.refused(desk, NoRow, row)
            for word in ROWS_OF_ONE:
                for row in (word, f"{word} 1 ", f"{word}  1", f"{word} 1 1", f"{word} 1  1", f"{word}  ", f"{word} x x",
                            f"{word} 1 x"):
                    self.refused(desk, NoRow, row)
            for word in ROWS_OF_TWO:
                for row in (word, f"{word} ", f"{word} 0", f"{word} x", f"{word} 0 0 ", f"{word}  0 0", f"{word} 0  0",
                            f"{word} 0 0 0", f"{word}   ", f"{word} x x x"):
                    self.refused(desk, NoRow, row)
            self.refused(desk, NoRow, "falls")
            self.refused(desk, NoRow, "lets")

    def test_no_falls_are_kept(self):
        desk = Desk(SHOP)
        for row in ("cost 0", "cost x", "cost ", "cost 99", "level 0 0", "level x 0", "level 9 9", "marks 0 0", "marks 0 x", "table",
                    f"lets {TABLE}", "lets ", "lets x", "lets 1/2@3\n"):
            self.refused(desk, NoRow, row)
        # Falls that are refused aren't kept.
        self.refused(desk, NoText, "falls 0")
        self.refused(desk, NoRow, "table")
        desk.say("falls 1")
        self.ask(desk, "cost 0", "0/1")

    def test_words_that_are_no_numbers(self):
        desk = desk_with()
        for word in NO_NUMBERS:
            for row in (f"cost {word}", f"choose {word}", f"fall {word}", f"level {word} 0", f"level 0 {word}",
                        f"marks {word} 0", f"marks 0 {word}", f"level {word} {word}",
                        # Ahead of a day, a stock or a level that isn't there.
                        f"level {word} 99", f"level 99 {word}", f"marks {word} -99", f"marks -1 {word}"):
                self.refused(desk, NoText, row)
        desk.say("choose 1")
        for word in NO_NUMBERS:
            # Ahead of a second level.
            self.refused(desk, NoText, f"choose {word}")

    def test_days_and_stocks_beyond(self):
        desk = desk_with()
        for stock in (-3, -2, 3, 4, 40, -10 ** 30, 10 ** 30, 10 ** 400 - 1):
            self.refused(desk, NoLevel, f"cost {stock}")
            for row in ("level", "marks"):
                self.refused(desk, NoLevel, f"{row} 0 {stock}")
                self.refused(desk, NoLevel, f"{row} 1 {stock}")
                self.refused(desk, NoLevel, f"{row} 5 {stock}")
        for t in (-1, -2, -3, 2, 3, 6, -10 ** 30, 10 ** 30, 10 ** 400 - 1):
            for row in ("level", "marks"):
                for stock in (-1, 0, 2):
                    self.refused(desk, NoLevel, f"{row} {t} {stock}")
        for stock in (-1, 2):
            desk.say(f"cost {stock}")
            for t in (0, 1):
                desk.say(f"level {t} {stock}")
                desk.say(f"marks {t} {stock}")
        # With other falls there are other days.
        desk.say("falls 1 1 1")
        desk.say("level 2 0")
        desk.say("falls 1")
        self.refused(desk, NoLevel, "level 1 0")

    def test_no_shop_s_text(self):
        for text in ("", " ", "1", SHOP + " ", " " + SHOP, SHOP + "\n", SHOP + " 1", SHOP[:-2], SHOP.replace(" ", "  "),
                     SHOP.replace(" ", ","), "40 0 1 1 1 1 1 1 1", "20 20 1 1 1 1 1 1 1", "-1 0 1 1 1 1 1 1 1",
                     "1 1 1000001 1 1 1 1 1 1", "1 1 1 1 1 1 1 1 01", "1 1 1 1 1 1 1 1 -0", "1 1 1 1 1 1 1 1 -1", "shop " + SHOP,
                     "1 1 1 1 1 1 1 1 " + "9" * 4400):
            assert_refused(self, NoText, Desk, text)
        for thing in NO_WHOLES + OTHERS + ((2, 1, 5, 2, 1, 4, 10, 1, 3), [SHOP], (SHOP,)):
            # One of the other things is a shop's text.
            if thing != "39 0 1 1 1 1 1 1 1":
                assert_refused(self, NoText, Desk, thing)
        self.ask(Desk("0 0 0 0 0 0 0 0 0"), "stock", "0")
        self.ask(Desk("39 0 1000000 1000000 1000000 1000000 1000000 1000000 1000000"), "stock", "0")

    def test_thrown_rows(self):
        # Whatever is said is answered, or refused by one of the classes, and then nothing has changed.
        dice = Dice(3)
        words = list(NEED_FALLS) + ["falls", "mean", "choose", "fall", "back", "stock", "paid", "days", "x", ""]
        parts = ["0", "1", "-1", "2", "7", "", "x", "1,1", "1,1,1,1", "1/2@3", "0/1@0;", "9" * 401, "\n"]
        answers = refusals = 0
        for _ in range(30):
            desk = Desk(SHOP)
            for _ in range(60):
                row = " ".join([dice.pick(words)] + [dice.pick(parts) for _ in range(dice.throw(0, 3))])
                before = seen(desk)
                try:
                    self.assertIs(type(desk.say(row)), str)
                    answers += 1
                except (NoRow, NoText, NoLevel, NoFall, NoBack, NoMean):
                    self.assertEqual(seen(desk), before)
                    refusals += 1
        self.assertGreater(min(answers, refusals), 100)


if __name__ == "__main__":
    unittest.main()
