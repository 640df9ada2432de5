import unittest

from things import NO_WHOLES, assert_truth
from twomarks.whole import is_whole, is_whole_within


class Whole(unittest.TestCase):
    def test_whole_numbers(self):
        for number in (0, 1, -1, 1000000, 10 ** 200 - 1, -(10 ** 200 - 1)):
            assert_truth(self, is_whole(number), True)

    def test_other_things(self):
        for thing in NO_WHOLES:
            with self.subTest(repr(thing)):
                assert_truth(self, is_whole(thing), False)
                assert_truth(self, is_whole_within(thing, -5, 5), False)

    def test_within(self):
        for number, wanted in ((1, False), (2, True), (3, True), (4, True), (5, False)):
            with self.subTest(number):
                assert_truth(self, is_whole_within(number, 2, 4), wanted)


if __name__ == "__main__":
    unittest.main()
