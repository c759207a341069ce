import unittest

from classtable.texts import digits, number_of


class Digits(unittest.TestCase):
    def test_digits(self):
        for n in list(range(-120, 120)) + [sign * (10 ** k + j) for k in (63, 64, 65, 128, 700) for j in (-1, 0, 1) for sign in (-1, 1)]:
            self.assertEqual(digits(n), str(n))
            self.assertEqual(number_of(digits(n)), n)

    def test_no_numbers(self):
        for word in ("", "-", "--1", "+1", "-0", "00", "01", "-01", " 1", "1 ", "1_0", "1.0", "\u0661", "\u00b2", "1" * 901, "-" + "1" * 901):
            self.assertIsNone(number_of(word), word)
        self.assertEqual(number_of("-" + "1" * 900), -(10 ** 900 // 9))


if __name__ == "__main__":
    unittest.main()
