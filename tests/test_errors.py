import unittest

from kinghall import errors

NAMES = ("NoHall", "NoPlayer", "NoRing", "NoRow", "Unlike", "NoNote")


class TestErrors(unittest.TestCase):
    def test_any_refusal_stands_under_value_error(self):
        self.assertEqual(errors.HallError.__bases__, (ValueError,))

    def test_each_stands_straight_under_hall_error(self):
        for name in NAMES:
            with self.subTest(name=name):
                self.assertEqual(getattr(errors, name).__bases__, (errors.HallError,))

    def test_none_stands_under_another(self):
        for one in NAMES:
            for other in NAMES:
                if one != other:
                    with self.subTest(one=one, other=other):
                        self.assertFalse(issubclass(getattr(errors, one), getattr(errors, other)))

    def test_each_has_its_own_name(self):
        for name in NAMES + ("HallError",):
            self.assertEqual(getattr(errors, name).__name__, name)

    def test_each_can_be_raised_and_taken_as_hall_error(self):
        for name in NAMES:
            with self.subTest(name=name):
                with self.assertRaises(errors.HallError):
                    raise getattr(errors, name)("words")


if __name__ == "__main__":
    unittest.main()
