import unittest

from classtable.errors import Fault, Malformed, NoText, Refused, ZeroDivisor

FOUR = (ZeroDivisor, Malformed, Refused, NoText)


class Errors(unittest.TestCase):
    def test_all_are_faults(self):
        self.assertTrue(issubclass(Fault, ValueError))
        for kind in FOUR:
            self.assertTrue(issubclass(kind, Fault), kind)

    def test_none_is_a_subclass_of_another_one(self):
        for kind in FOUR:
            for other in FOUR:
                if kind is not other:
                    self.assertFalse(issubclass(kind, other), (kind, other))

    def test_reason(self):
        self.assertEqual(Refused("points").reason, "points")
        with self.assertRaises(Fault) as caught:
            raise Refused("order")
        self.assertEqual(caught.exception.reason, "order")

    def test_at(self):
        self.assertEqual(NoText(0).at, 0)
        with self.assertRaises(Fault) as caught:
            raise NoText(17)
        self.assertEqual(caught.exception.at, 17)

    def test_words(self):
        for kind in (Fault, ZeroDivisor, Malformed):
            with self.assertRaises(ValueError):
                raise kind("some words")


if __name__ == "__main__":
    unittest.main()
