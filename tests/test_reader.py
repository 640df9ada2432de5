import unittest

from brute import Dice, thrown_falls, thrown_rule, thrown_shop
from things import NO_WHOLES, OTHERS, assert_refused, told_unchanged
from twomarks.errors import NoText
from twomarks.reader import read_falls, read_rule, read_share, read_shop, read_table
from twomarks.table import least
from twomarks.texts import show_falls, show_rule, show_share, show_shop, show_table
from written import falls_written, rule_written, share_written, shop_written, table_written

READERS = (
    (read_shop, shop_written, show_shop), (read_falls, falls_written, show_falls), (read_rule, rule_written, show_rule),
    (read_share, share_written, show_share), (read_table, table_written, show_table),
)
SHOP = "5 3 100 7 2 11 1000 3 13"
FALLS = "0,10,7 3 2,0"
RULE = "-1,0,10 2,20"
SHARE = "-10/21"
TABLE = "1/20@3 -5/1@-4\n0/1@0 7/3@10"
TEXTS = (SHOP, FALLS, RULE, SHARE, TABLE, "1", "0", "-1", "0/1", "1/2", "1,2", "1 2", "1/2@3", "0/1@-1", "0 0 0 0 0 0 0 0 0")
SIGNS = " ,/@-;:.+_0123456789aexE~!\"'()\n\t\r"


class Read(unittest.TestCase):
    def ask(self, text, readers=READERS):
        """How many of the readers read the text; each what is so written, else it is refused."""
        count = 0
        for read, written, show in readers:
            with self.subTest(read=read.__name__, text=repr(text)[:200]):
                wanted = written(text)
                if wanted is None:
                    assert_refused(self, NoText, read, text)
                else:
                    count += 1
                    told = told_unchanged(self, read, text)
                    self.assertEqual(repr(told), repr(wanted))
                    self.assertEqual(show(told), text)
        return count

    def ask_one(self, read, text, wanted):
        """Just this is read, or None: it is refused."""
        with self.subTest(read=read.__name__, text=repr(text)[:200]):
            if wanted is None:
                assert_refused(self, NoText, read, text)
            else:
                self.assertEqual(repr(told_unchanged(self, read, text)), repr(wanted))

    def test_written_ones(self):
        self.ask_one(read_shop, SHOP, (5, 3, 100, 7, 2, 11, 1000, 3, 13))
        self.ask_one(read_falls, FALLS, ((0, 10, 7), (3,), (2, 0)))
        self.ask_one(read_rule, RULE, ((-1, 0, 10), (2, 20)))
        self.ask_one(read_rule, FALLS, ((0, 10, 7), (3,), (2, 0)))
        self.ask_one(read_share, SHARE, (-10, 21))
        self.ask_one(read_table, TABLE, ((((1, 20), 3), ((-5, 1), -4)), (((0, 1), 0), ((7, 3), 10))))

    def test_each_text_to_all_readers(self):
        self.assertEqual([self.ask(text) for text in TEXTS], [2, 2, 1, 1, 1, 2, 1, 1, 1, 1, 2, 2, 1, 1, 2])
        for text in ("", " ", "\n", ",", "/", "@", "-", "@/", "1/", "/1", "1@", "@1", "1/2@", "/@", "1@2", "1@2/3", "1/2/3"):
            self.assertEqual(self.ask(text), 0)

    def test_a_sign_put_in(self):
        for text in TEXTS:
            for at in range(len(text) + 1):
                for sign in SIGNS:
                    self.ask(text[:at] + sign + text[at:])

    def test_a_sign_left_out_or_twice(self):
        for text in TEXTS:
            for at in range(len(text)):
                self.ask(text[:at] + text[at + 1:])
                self.ask(text[:at + 1] + text[at:])
                for end in range(at, len(text) + 1):
                    self.ask(text[:at] + text[end:])

    def test_a_sign_in_the_place_of_another_one(self):
        for text in TEXTS:
            for at in range(len(text)):
                for sign in SIGNS:
                    self.ask(text[:at] + sign + text[at + 1:])

    def test_two_signs_put_in(self):
        for text in ("1", "1/2", "1/2@3", "1,2", SHARE):
            for at in range(len(text) + 1):
                for one in SIGNS:
                    for other in "0-1 ,/@\n;":
                        self.ask(text[:at] + one + other + text[at:])

    def test_blanks_and_line_ends(self):
        for text in TEXTS:
            for more in (" ", "  ", "\n", "\n\n", "\t", "\r", "\r\n", ";", "; "):
                for changed in (text + more, more + text, text.replace(" ", more), text.replace(",", "," + more),
                                text.replace("/", more + "/"), text.replace("@", "@" + more), text.replace("\n", more),
                                text + more + text):
                    self.ask(changed)
        self.assertEqual(self.ask("1/2@3\n\n1/2@3"), 0)
        self.assertEqual(self.ask("\n1/2@3"), 0)
        self.assertEqual(self.ask("1/2@3\n"), 0)
        self.assertEqual(self.ask("1/2@3 \n1/2@3"), 0)
        self.assertEqual(self.ask("1/2@3\n1/2@3 1/2@3"), 1)

    def test_a_number_otherwise(self):
        words = ("00", "01", "007", "-0", "-00", "-01", "+1", "+0", "--1", "- 1", "1-", "1.0", "1.", ".5", "1e3", "0x1",
                 "1_0", "_1", "1_", "a", "", "-", "one", "\u0661", "\u00b2", "\uff11", "1\u0661", "1000001", "1001", "40",
                 "-1", "0", "1000000")
        for text in TEXTS:
            parts = []
            word = ""
            for sign in text:
                if sign in " ,/@\n":
                    parts += [word, sign]
                    word = ""
                else:
                    word += sign
            parts.append(word)
            for at in range(0, len(parts), 2):
                for other in words:
                    self.ask("".join(parts[:at] + [other] + parts[at + 1:]))
                # Left out with its sign, and twice.
                self.ask("".join(parts[:at] + parts[at + 2:]))
                self.ask("".join(parts[:max(at - 1, 0)] + parts[at + 1:]))
                self.ask("".join(parts[:at + 2] + parts[at:]))

    def test_long_numbers(self):
        for figures in (1, 2, 30, 200, 398, 399, 400, 401, 402, 800, 4299, 4300, 4301, 4400, 49000):
            fits = figures <= 400
            for word in ("9" * figures, "1" + "0" * (figures - 1), "-" + "7" * figures, "-1" + "0" * (figures - 1)):
                # Only the pattern is asked, so that no long number is reckoned in the test.
                number = int(word) if fits else None
                self.ask_one(read_rule, word, ((number,),) if fits else None)
                self.ask_one(read_rule, f"1,{word} {word},2", ((1, number), (number, 2)) if fits else None)
                self.ask_one(read_share, f"{word}/1", (number, 1) if fits else None)
                self.ask_one(read_share, f"1/{word}", (1, number) if fits and number > 0 else None)
                self.ask_one(read_table, f"1/2@{word}", ((((1, 2), number),),) if fits else None)
                self.ask_one(read_table, f"{word}/1@0", ((((number, 1), 0),),) if fits else None)
                # These are beyond all prices and weights.
                if figures >= 30:
                    self.ask_one(read_falls, word, None)
                    self.ask_one(read_falls, f"1,{word}", None)
                    self.ask_one(read_shop, f"1 1 {word} 1 1 1 1 1 1", None)
            self.ask_one(read_rule, "0" * figures, ((0,),) if figures == 1 else None)
            self.ask_one(read_rule, "0" * figures + "1", None)
        for word in ("x" * 4400, "-" * 4400, " " * 4400, "," * 4400, "/" * 4400, "@" * 4400, "\n" * 4400, "1" * 4400,
                     "0" * 4400, "1/" * 2200, "1," * 2200, "1 " * 2200, "1/2@3 " * 8000, "1/2@3\n" * 8000):
            for read, written, show in READERS:
                self.ask_one(read, word, None)

    def test_long_texts(self):
        self.ask(",".join(["-10"] * 10000), READERS[1:3])
        self.ask(" ".join(["7"] * 24000), READERS[1:3])
        self.ask(" ".join(["1/2@3"] * 8000), READERS[4:])
        self.ask("\n".join(["1/2@3"] * 8000), READERS[4:])
        self.ask(" ".join([f"{10 ** 399 + 2 * at + 1}/{10 ** 398}@0" for at in range(60)]), READERS[4:])

    def test_shares(self):
        for top in range(-12, 13):
            for bottom in range(-12, 13):
                self.ask(f"{top}/{bottom}")
                self.ask(f"{top}/{bottom}@0 1/2@3")
                self.ask(f"1/2@3\n{top}/{bottom}@0")
        for many in (2, 3, 10 ** 100):
            self.ask_one(read_share, f"{7 * many}/{5 * many}", None)
            self.ask_one(read_table, f"1/2@3 {7 * many}/{5 * many}@1", None)
        for text in ("0/0", "1/0", "0/2", "0/-1", "-1/-2", "1/-2", "2/4", "-0/1", "1/2 ", " 1/2", "1/2/3", "1", "1/2@3"):
            self.ask_one(read_share, text, None)

    def test_shops_just_beyond_their_bounds(self):
        numbers = [3, 2, 5, 5, 5, 5, 5, 5, 5]
        for at in range(9):
            for number in (-1, 0, 1, 36, 37, 38, 39, 40, 999999, 1000000, 1000001, 10 ** 30, 10 ** 399):
                self.ask(" ".join([str(one) for one in numbers[:at] + [number] + numbers[at + 1:]]))
        for top, depth in ((39, 0), (0, 39), (20, 19), (20, 20), (40, 0), (0, 40), (39, 1), (-1, 0), (0, -1), (40, -1)):
            text = f"{top} {depth} 1 1 1 1 1 1 1"
            fits = top >= 0 and depth >= 0 and top + depth <= 39
            self.ask_one(read_shop, text, (top, depth, 1, 1, 1, 1, 1, 1, 1) if fits else None)

    def test_nine_numbers_and_others(self):
        for many in range(13):
            text = " ".join(["1"] * many)
            self.ask_one(read_shop, text, (1,) * 9 if many == 9 else None)
            self.ask_one(read_falls, text, ((1,),) * many if 1 <= many <= 6 else None)
            self.ask_one(read_rule, text, ((1,),) * many if many else None)
            text = ",".join(["1"] * many)
            self.ask_one(read_shop, text, None)
            self.ask_one(read_falls, text, ((1,) * many,) if 1 <= many <= 8 else None)
            self.ask_one(read_rule, text, ((1,) * many,) if many else None)

    def test_weights_just_beyond_their_bounds(self):
        for weight in (-1, 0, 1, 999, 1000, 1001, 10 ** 30):
            for text in (f"{weight}", f"1,{weight}", f"{weight},0", f"0,{weight}", f"1 {weight}", f"{weight} 1,1", f"0 {weight}"):
                self.ask(text)
        for text in ("0", "0,0", "1 0", "0 1", "1,1 0,0,0", "0,0,0,0,0,0,0,0"):
            self.ask_one(read_falls, text, None)
        self.ask_one(read_falls, "0,0,0,0,0,0,0,1", ((0, 0, 0, 0, 0, 0, 0, 1),))

    def test_rules_that_fit_no_shop(self):
        self.ask_one(read_rule, "100,-100 7 1,2,3", ((100, -100), (7,), (1, 2, 3)))
        self.ask_one(read_rule, "1 1 1 1 1 1 1", ((1,),) * 7)
        self.ask_one(read_table, "1/2@-100 1/2@100\n3/1@7", ((((1, 2), -100), ((1, 2), 100)), (((3, 1), 7),)))

    def test_things_that_are_no_text(self):
        for thing in NO_WHOLES + OTHERS:
            if type(thing) is str:
                self.ask(thing)
            else:
                for read, written, show in READERS:
                    self.ask_one(read, thing, None)
        for read, written, show in READERS:
            for text in TEXTS:
                self.ask_one(read, [text], None)
                self.ask_one(read, (text,), None)
                self.ask_one(read, {text: text}, None)
            for thing in ((5, 3, 100, 7, 2, 11, 1000, 3, 13), ((1, 2),), (1, 2), ((((1, 2), 3),),), ["1", "/", "2"]):
                self.ask_one(read, thing, None)

    def test_thrown_texts(self):
        dice = Dice(1)
        read = 0
        for _ in range(3000):
            signs = dice.pick(("01 ", "01,", "012/", "12/@ \n", "-10, ", "123/@", "0123456789 ,/@\n-"))
            read += self.ask("".join([dice.pick(signs) for _ in range(dice.throw(1, 9))])) > 0
        self.assertGreater(read, 500)

    def test_thrown_things_changed_in_one_place(self):
        dice = Dice(2)
        for _ in range(150):
            shop, falls = thrown_shop(dice, 5, 1000000), thrown_falls(dice, 3, 4)
            for text in (show_shop(shop), show_falls(falls), show_rule(thrown_rule(dice, shop, falls)),
                         show_table(least(shop, falls)), show_share(least(shop, falls)[0][0][0])):
                self.assertGreater(self.ask(text), 0)
                for _ in range(4):
                    at = dice.throw(0, len(text))
                    self.ask(text[:at] + dice.pick(SIGNS) + text[at + dice.throw(0, 1):])


if __name__ == "__main__":
    unittest.main()
