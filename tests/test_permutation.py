import unittest
from itertools import permutations as arrangements

from classtable.errors import Malformed, NoText, Refused
from classtable.permutation import Permutation, identity, read_permutation

ALL = [Permutation(images) for m in range(1, 5) for images in arrangements(range(m))]


class Making(unittest.TestCase):
    def test_images(self):
        self.assertEqual(Permutation((2, 0, 1)).images, (2, 0, 1))
        images = [2, 0, 1]
        self.assertEqual(Permutation(images).images, (2, 0, 1))
        self.assertIsInstance(Permutation(images).images, tuple)
        self.assertEqual(images, [2, 0, 1])

    def test_numbers_of_points(self):
        self.assertEqual(Permutation((0,)).images, (0,))
        self.assertEqual(Permutation(tuple(range(12))[::-1]).images, tuple(range(12))[::-1])
        for m in (13, 14, 40):
            with self.assertRaises(Refused) as caught:
                Permutation(tuple(range(m)))
            self.assertEqual(caught.exception.reason, "points")

    def test_malformed(self):
        for bad in ((), [], (1,), (-1, 0), (0, 0), (0, 2), (1, 2, 3), (0, 1, 1), (False,), (False, True), (0, True), (True, 0),
                    (1, False), (0, None), ("0",), "01", "", None, 0, 3, True, {0: 0}, (0, (1,)), [0, [1]], (0, "1"), ((0, 1),),
                    identity(2), (0, identity(1)), (0,) * 13, tuple(range(1, 14)), tuple(range(12)) + (True,)):
            with self.assertRaises(Malformed, msg=repr(bad)):
                Permutation(bad)

    def test_identity(self):
        for m in range(1, 13):
            self.assertEqual(identity(m).images, tuple(range(m)))
        with self.assertRaises(Refused) as caught:
            identity(13)
        self.assertEqual(caught.exception.reason, "points")


class Products(unittest.TestCase):
    def test_the_right_one_is_applied_first(self):
        for a in ALL:
            for b in ALL:
                if len(a.images) == len(b.images):
                    for k in range(len(a.images)):
                        self.assertEqual((a * b)(k), a(b(k)))
        self.assertEqual((Permutation((1, 0, 2)) * Permutation((0, 2, 1))).images, (1, 2, 0))

    def test_products_with_other_values(self):
        for value in (1, None, (1, 0), "(0 1)"):
            with self.assertRaises(TypeError):
                Permutation((1, 0)) * value

    def test_unlike_numbers_of_points(self):
        for a in ALL:
            for b in ALL:
                if len(a.images) != len(b.images):
                    with self.assertRaises(Malformed):
                        a * b

    def test_images(self):
        for a in ALL:
            self.assertEqual(tuple(a(k) for k in range(len(a.images))), a.images)

    def test_inverse(self):
        for a in ALL:
            unit = identity(len(a.images))
            self.assertEqual(a * a.inverse(), unit)
            self.assertEqual(a.inverse() * a, unit)
        self.assertEqual(Permutation((1, 2, 0)).inverse().images, (2, 0, 1))

    def test_order(self):
        for a in ALL:
            k, power = 1, a
            while power != identity(len(a.images)):
                k, power = k + 1, power * a
            self.assertEqual(a.order(), k)
        self.assertEqual(identity(1).order(), 1)
        self.assertEqual(Permutation((1, 0, 3, 4, 2, 6, 7, 8, 9, 5, 10, 11)).order(), 30)
        self.assertEqual(Permutation((1, 2, 3, 4, 5, 6, 7, 8, 9, 10, 11, 0)).order(), 12)

    def test_cycles(self):
        for a in ALL:
            cycles = a.cycles()
            self.assertIsInstance(cycles, tuple)
            moved = [k for cycle in cycles for k in cycle]
            self.assertEqual(sorted(moved), [k for k in range(len(a.images)) if a(k) != k])
            self.assertEqual(sorted(cycles), list(cycles))
            for cycle in cycles:
                self.assertIsInstance(cycle, tuple)
                self.assertEqual(cycle[0], min(cycle))
                self.assertEqual([a(k) for k in cycle], list(cycle[1:] + cycle[:1]))
        self.assertEqual(identity(5).cycles(), ())
        self.assertEqual(Permutation((3, 1, 4, 0, 2)).cycles(), ((0, 3), (2, 4)))

    def test_fixed(self):
        for a in ALL:
            self.assertEqual(a.fixed(), sum(a(k) == k for k in range(len(a.images))))
        self.assertEqual(identity(12).fixed(), 12)

    def test_objects_unchanged(self):
        a = Permutation((1, 2, 0))
        a * a, a(1), str(a), a.inverse(), a.order(), a.cycles(), a.fixed(), a == a
        self.assertEqual(a.images, (1, 2, 0))


class Equality(unittest.TestCase):
    def test_permutations(self):
        for a in ALL:
            for b in ALL:
                self.assertIs(a == b, a.images == b.images)
                self.assertIs(a != b, a.images != b.images)

    def test_other_values(self):
        a = Permutation((1, 0))
        for value in ((1, 0), [1, 0], "(0 1)", None, 0, True, object()):
            self.assertIs(a == value, False)
            self.assertIs(value == a, False)


class Texts(unittest.TestCase):
    def test_text(self):
        for images, text in (
                ((0,), "()"), ((0, 1, 2), "()"), ((1, 0), "(0 1)"), ((1, 2, 0), "(0 1 2)"), ((2, 0, 1), "(0 2 1)"),
                ((0, 2, 1), "(1 2)"), ((3, 2, 1, 0), "(0 3)(1 2)"), ((4, 3, 2, 1, 0), "(0 4)(1 3)"),
                ((1, 2, 3, 4, 5, 6, 7, 8, 9, 10, 11, 0), "(0 1 2 3 4 5 6 7 8 9 10 11)")):
            self.assertEqual(str(Permutation(images)), text)
            self.assertEqual(read_permutation(text, len(images)).images, images)

    def test_reading_back(self):
        for a in ALL:
            self.assertEqual(read_permutation(str(a), len(a.images)), a)
        self.assertEqual(read_permutation("(0 1)", 5).images, (1, 0, 2, 3, 4))
        self.assertEqual(read_permutation("()", 12), identity(12))

    def refused(self, text, m):
        with self.assertRaises(NoText, msg=repr(text)) as caught:
            read_permutation(text, m)
        self.assertEqual(caught.exception.at, 0)

    def test_spoilt_texts(self):
        for text in ("", " ", "(", ")", ")(", "(0)", "(0 1", "0 1)", "0 1", "(1 0)", "(1 2 0)", "(2 3)(0 1)", "(0 1)(0 1)", "(0 1)(1 2)",
                     "(0 1 0)", "(0 0)", "(0  1)", "( 0 1)", "(0 1 )", "(0 1) (2 3)", " (0 1)", "(0 1) ", "(0 1)\n", "(00 1)", "(0 01)",
                     "(0,1)", "(+0 1)", "(-0 1)", "(-1 1)", "(0 -1)", "(0 1)()", "()()", "()(0 1)", "( )", "(0 1)(2)", "(0 4)", "(0 12)",
                     "[0 1]", "(a b)", "(0 1))", "((0 1)", "(0 1)(", "(0 1)x", "(0 \u0661)", "(0 \u00b9)", "(0\t1)", "e", "(0 1)(2 3)(0 2)", "x0 1x", "0 10 1", "{0 1}",
                     "(0 1)(3 2)", "(0 " + "1" * 901 + ")"):
            self.refused(text, 4)

    def test_too_few_points(self):
        self.refused("(0 1)", 1)
        self.refused("(0 1 2)", 2)
        self.refused("(0 12)", 12)
        self.assertEqual(read_permutation("(0 11)", 12).fixed(), 10)

    def test_no_strings(self):
        for value in (None, True, 0, 1, (), (0, 1), [0, 1], ["(0 1)"], identity(2), b"(0 1)"):
            self.refused(value, 2)

    def test_no_number_of_points(self):
        for m in (-1, 0, 13):
            self.refused("()", m)


if __name__ == "__main__":
    unittest.main()
