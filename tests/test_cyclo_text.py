import unittest

from classtable.cyclo import Cyclo, of_integer, read_cyclo, root
from classtable.errors import NoText

FORMS = [
    (of_integer(0), "0"),
    (of_integer(17), "17"),
    (of_integer(-4), "-4"),
    (Cyclo(1, (3,), 2), "3/2"),
    (Cyclo(1, (-3,), 2), "-3/2"),
    (root(3), "E3:0,1"),
    (root(3, 2), "E3:-1,-1"),
    (root(6), "E3:1,1"),
    (root(4), "E4:0,1"),
    (Cyclo(4, (2, -4), 6), "E4:1,-2/3"),
    (root(6) * root(4), "E12:0,-1,0,1"),
    (root(5) + root(5, 4), "E5:-1,0,-1,-1"),
    (Cyclo(8, (0, 12, 0, -100), 7), "E8:0,12,0,-100/7"),
]

SPOILT = [
    # other spellings of a number
    "E1:5", "E6:0,1", "E2:1", "E3:1,0", "E4:0,2/2", "E12:0,0,0,1", "E4:0,1/1", "5/1", "0/1", "E5:0,0,0,0", "E9:0,0,0,1,0,0",
    "E8:0,0,1,0", "E4:2,0", "E10:0,1,0,0",
    # fractions not in lowest terms, and lows that are not from 1 on
    "2/4", "-2/4", "6/3", "E4:2,4/2", "E4:3,6/9", "1/0", "1/-2", "0/5", "E4:0,1/0", "E4:0,1/-1",
    # spaces, signs, leading zeros
    "", " ", " 1", "1 ", "+1", "-0", "--1", "-", "01", "-01", "007", "1/02", "E03:0,1", "E3: 0,1", "E3:0, 1", "E3:0,+1",
    "E3:0,01", "E3:-0,1", "E+3:0,1", "E-3:0,1", "E 3:0,1", "1 /2", "1/ 2", "1\n", "E3:0,1\n", "\tE3:0,1",
    # a wrong number of items
    "E3:", "E3:1", "E3:0,1,0", "E3:0,1,", "E3:,0,1", "E3:,", "E5:0,1,0", "E5:0,1,0,0,0", "1,2", "E3", "E3:0,1:2",
    # no numbers
    "E", "E:", "E:0,1", "E0:", "E0:1", "E5001:1", "e3:0,1", "x", "E3:a,b", "1/", "/2", "/", "1/2/3", "E3:0,1/2/3", "1.5",
    "1_0", "E3;0,1", "E3:0;1", "None", "E99999999999999999999:0,1", "0x1", "1e3",
    # digits that are not those from 0 to 9
    "\u0661", "\u00b2", "E\u0663:0,1", "E3:0,\u00b9", "1/\u0662",
]


class Texts(unittest.TestCase):
    def test_text(self):
        for number, text in FORMS:
            self.assertEqual(str(number), text)

    def test_reading_back(self):
        for number, text in FORMS:
            self.assertEqual(read_cyclo(text).key(), number.key())
        for e in range(1, 40):
            number = (root(e) + root(e, 3).scaled(-2) + of_integer(e)).over(5)
            self.assertEqual(read_cyclo(str(number)), number)

    def test_great_e(self):
        for e in (4620, 4999, 5000):
            self.assertEqual(read_cyclo(str(root(e, 7))), root(e, 7))

    def test_numbers_of_many_digits(self):
        for n in (10 ** 63, 10 ** 64 - 1, 10 ** 64, 10 ** 64 + 1, 10 ** 128, 10 ** 200 + 5, 7 ** 1000, 10 ** 900 - 1):
            self.assertEqual(str(of_integer(n)), str(n))
            self.assertEqual(str(of_integer(-n)), str(-n))
            self.assertEqual(read_cyclo(str(n)), of_integer(n))
            self.assertEqual(read_cyclo(str(-n)), of_integer(-n))

    def test_text_of_numbers_that_python_does_not_write(self):
        self.assertEqual(str(of_integer(10 ** 6000)), "1" + "0" * 6000)
        self.assertEqual(str(of_integer(-(10 ** 6000))), "-1" + "0" * 6000)
        self.assertEqual(str(Cyclo(4, (3, 1), 10 ** 5000)), "E4:3,1/1" + "0" * 5000)


class NoTexts(unittest.TestCase):
    def refused(self, value):
        with self.assertRaises(NoText, msg=repr(value)) as caught:
            read_cyclo(value)
        self.assertEqual(caught.exception.at, 0)

    def test_spoilt_texts(self):
        for text in SPOILT:
            self.refused(text)

    def test_one_sign_too_many(self):
        for _, text in FORMS:
            for at in range(len(text) + 1):
                self.refused(text[:at] + " " + text[at:])
                self.refused(text[:at] + "x" + text[at:])

    def test_e_above_5000_with_its_number_of_items(self):
        self.refused("E5003:0,1" + ",0" * 5000)
        self.refused("E" + str(10 ** 40 + 1) + ":0,1")

    def test_no_strings(self):
        for value in (None, True, False, 0, 1, (), [], ("1",), ["1"], root(3), b"1", of_integer(1)):
            self.refused(value)

    def test_more_than_900_digits(self):
        self.assertEqual(read_cyclo("9" * 900).whole(), 10 ** 900 - 1)
        self.assertEqual(read_cyclo("-" + "9" * 900).whole(), 1 - 10 ** 900)
        self.refused("9" * 901)
        self.refused("-" + "9" * 901)
        self.refused("1/" + "9" * 901)
        self.refused("E4:0," + "9" * 901)
        self.refused("E4:1,1/" + "9" * 901)
        self.refused("E" + "9" * 901 + ":1")
        self.refused("9" * 5000)
        self.refused(str(of_integer(10 ** 900)))
        self.assertEqual(read_cyclo("E4:1,1/" + "9" * 900).low, 10 ** 900 - 1)


if __name__ == "__main__":
    unittest.main()
