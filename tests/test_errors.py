import unittest

from twomarks import errors

NAMES = ("NoShare", "NoMean", "NoStand", "NoText", "NoRow", "NoLevel", "NoFall", "NoBack")


class Errors(unittest.TestCase):
    def test_any_refusal_stands_straight_under_value_error(self):
        self.assertEqual(errors.ShopError.__bases__, (ValueError,))

    def test_each_stands_straight_under_shop_error(self):
        for name in NAMES:
            with self.subTest(name):
                found = getattr(errors, name)
                self.assertEqual(found.__name__, name)
                self.assertEqual(found.__bases__, (errors.ShopError,))
                self.assertTrue(issubclass(found, ValueError))

    def test_none_stands_under_another(self):
        for name in NAMES:
            for other in NAMES:
                if name != other:
                    with self.subTest(name=name, other=other):
                        self.assertFalse(issubclass(getattr(errors, name), getattr(errors, other)))

    def test_each_is_raised_and_taken_as_any_refusal(self):
        for name in NAMES:
            with self.subTest(name):
                with self.assertRaises(errors.ShopError) as taken:
                    raise getattr(errors, name)("why")
                self.assertEqual(str(taken.exception), "why")


if __name__ == "__main__":
    unittest.main()
