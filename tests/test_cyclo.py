import cmath
import unittest
from fractions import Fraction
from math import gcd

from classtable.cyclo import Cyclo, added, cyclotomic, of_integer, root
from classtable.errors import Malformed, ZeroDivisor


def multiplied(a, b):
    out = [0] * (len(a) + len(b) - 1)
    for j, c in enumerate(a):
        for k, d in enumerate(b):
            out[j + k] += c * d
    return out


def coprime_numbers(e):
    return [k for k in range(1, e + 1) if gcd(k, e) == 1]


def remainder(items, e):
    """The items by the powers of z_e below the degree of P_e, found without the program's reduction."""
    by = cyclotomic(e)
    degree = len(by) - 1
    rest = [Fraction(c) for c in items] + [Fraction(0)] * degree
    for at in range(len(rest) - 1, degree - 1, -1):
        c = rest[at]
        for k in range(degree + 1):
            rest[at - degree + k] -= c * by[k]
    return rest[:degree]


def moved(items, e, k):
    """The items of the k-th Galois image."""
    out = [Fraction(0)] * e
    for j, c in enumerate(items):
        out[j * k % e] += c
    return remainder(out, e)


def one_form(e, items, low):
    """The key of point 1.3, by another way: the least m for which all images with k = 1 modulo m agree."""
    told = remainder([Fraction(c, low) for c in items], e)
    least = min(m for m in range(1, e + 1) if e % m == 0 and all(
        moved(told, e, k) == told for k in coprime_numbers(e) if (k - 1) % m == 0))
    degree = len(cyclotomic(least)) - 1
    columns = [remainder([0] * (k * (e // least)) + [1], e) for k in range(degree)]
    parts = solved(columns, told)
    shared = 1
    while any((c * shared).denominator != 1 for c in parts):
        shared += 1
    return (least, tuple(int(c * shared) for c in parts), shared)


def solved(columns, target):
    """The only multiples of the columns with the sum `target`."""
    rows = [[column[at] for column in columns] + [target[at]] for at in range(len(target))]
    for k in range(len(columns)):
        at = next(i for i in range(k, len(rows)) if rows[i][k] != 0)
        rows[k], rows[at] = rows[at], rows[k]
        rows[k] = [x / rows[k][k] for x in rows[k]]
        for i in range(len(rows)):
            if i != k and rows[i][k] != 0:
                c = rows[i][k]
                rows[i] = [x - c * y for x, y in zip(rows[i], rows[k])]
    return [rows[k][-1] for k in range(len(columns))]


def near(number):
    """The complex number, roughly."""
    turn = cmath.exp(2j * cmath.pi / number.e)
    return sum(c * turn ** k for k, c in enumerate(number.parts)) / number.low


SAMPLES = [
    (1, (0,), 1), (1, (5,), 1), (1, (-3,), 4), (2, (1, 1), 1), (2, (0, 1), 3), (3, (1, 2), 1), (3, (0, 0, 1), -2),
    (3, (4, 4, 4), 1), (4, (0, 1), 1), (4, (2, 0, 3, 6), 4), (5, (0, 1, 0, 0, 1), 1), (5, (1, 2, 3, 4, 5), 5),
    (6, (0, 1), 1), (6, (1, 0, 2, 0, 3), 1), (8, (0, 1, 0, -1), 1), (8, (0, 1, 0, 1), 2), (9, (1, 0, 0, 2), 1),
    (9, (0, 1, 0, 0, 0, 0, 0, 1), 1), (10, (0, 1, 2, 3), 7), (12, (0, -1, 0, 1), 1), (12, (0, 1, 0, 0, 0, 1), 1),
    (12, (6, 0, 4, 0, 2), -6), (15, (1, 1, 0, 2, 0, -1), 3), (15, (0, 0, 0, 1, 0, 0, 1), 1), (18, (0, 3, 1), 2),
    (20, (0, 0, 0, 0, 2, 0, 0, 0, 2), 2), (24, (0, 1, 0, 0, 0, 2), 1), (30, (1, 2, 3, 4, 5, 6, 7), 1),
    (12, (1,) * 12, 1), (12, (1,) * 25, 2), (7, (0, 1, 1, 0, 1), 1), (21, (0, 0, 0, 1), 1), (36, (0, 0, 0, 0, 1), 9),
]


class Polynomials(unittest.TestCase):
    def test_product_over_all_divisors(self):
        for e in list(range(1, 70)) + [105, 128, 243, 210]:
            out = [1]
            for d in range(1, e + 1):
                if e % d == 0:
                    out = multiplied(out, cyclotomic(d))
            self.assertEqual(out, [-1] + [0] * (e - 1) + [1], e)

    def test_form(self):
        for e in range(1, 130):
            items = cyclotomic(e)
            self.assertIsInstance(items, tuple)
            self.assertEqual(len(items), len(coprime_numbers(e)) + 1)
            self.assertEqual(items[-1], 1)

    def test_some(self):
        self.assertEqual(cyclotomic(1), (-1, 1))
        self.assertEqual(cyclotomic(2), (1, 1))
        self.assertEqual(cyclotomic(9), (1, 0, 0, 1, 0, 0, 1))
        self.assertEqual(cyclotomic(12), (1, 0, -1, 0, 1))
        self.assertEqual(cyclotomic(105)[7], -2)
        self.assertEqual(cyclotomic(4999), (1,) * 4999)


class Form(unittest.TestCase):
    def test_one_form(self):
        for e, items, low in SAMPLES:
            number = Cyclo(e, items, low)
            self.assertEqual((number.e, number.parts, number.low), one_form(e, items, low), (e, items, low))

    def test_two_terms_by_every_e(self):
        for e in range(1, 31):
            for k in range(0, e, 2):
                items = [0] * e
                items[k] += 1
                items[1 % e] -= 3
                number = Cyclo(e, items, 2)
                self.assertEqual(number.key(), one_form(e, items, 2), (e, items))

    def test_the_same_number_told_in_several_ways(self):
        for e, items, low in SAMPLES:
            number = Cyclo(e, items, low)
            for times in (2, 3, 4, 5, 6, 10):
                wide = [0] * (times * len(items))
                for k, c in enumerate(items):
                    wide[k * times] = c
                self.assertEqual(Cyclo(e * times, wide, low).key(), number.key())
            self.assertEqual(Cyclo(e, [0] * e + list(items), low).key(), number.key())
            self.assertEqual(Cyclo(e, [-6 * c for c in items], -6 * low).key(), number.key())
            self.assertEqual(Cyclo(e, [c + 7 for c in list(items) + [0] * (-len(items) % e)], low).key(),
                             number.key() if e > 1 else Cyclo(1, (sum(items) + 7 * len(items),), low).key())

    def test_rational_numbers(self):
        for e in (1, 2, 3, 4, 6, 8, 30, 4620, 4999, 5000):
            self.assertEqual(Cyclo(e, (6,), 4).key(), (1, (3,), 2))
            self.assertEqual(Cyclo(e, ()).key(), (1, (0,), 1))
            self.assertEqual(Cyclo(e, [0] * 7, -9).key(), (1, (0,), 1))

    def test_sums_of_all_powers(self):
        for e in (2, 3, 12, 30, 60, 4999):
            self.assertEqual(Cyclo(e, [5] * e).key(), (1, (0,), 1))
            self.assertEqual(Cyclo(e, [0] + [1] * (e - 1)).key(), (1, (-1,), 1))

    def test_great_e(self):
        for e in (4620, 4999, 5000, 3465, 4096, 2187):
            number = root(e)
            self.assertEqual(number.e, e)
            self.assertEqual(number.low, 1)
            self.assertEqual(len(number.parts), len(coprime_numbers(e)))
            self.assertEqual(number.parts[:2], (0, 1))
            self.assertEqual(number.power(e).whole(), 1)
        self.assertEqual(root(4998), -root(2499, 1250))

    def test_fields(self):
        number = Cyclo(8, [2, 4, 0, 6], 10)
        self.assertEqual((number.e, number.parts, number.low), (8, (1, 2, 0, 3), 5))
        self.assertEqual(number.key(), (8, (1, 2, 0, 3), 5))
        self.assertIsInstance(number.parts, tuple)
        self.assertEqual(Cyclo(6, (0, 1)).key(), (3, (1, 1), 1))

    def test_arguments_unchanged(self):
        items = [4, 2, 0, 0, 0, 6, 7]
        Cyclo(5, items, 2)
        self.assertEqual(items, [4, 2, 0, 0, 0, 6, 7])

    def test_great_items(self):
        great = 7 ** 3000
        self.assertEqual(Cyclo(4, (great * 3, great), great * 2).key(), (4, (3, 1), 2))


class Refusals(unittest.TestCase):
    def test_e(self):
        for e in (0, -1, 5001, 10 ** 30, True, False, None, "3", (3,), [3]):
            with self.assertRaises(Malformed):
                Cyclo(e, (1,))
            with self.assertRaises(Malformed):
                root(e)
            with self.assertRaises(Malformed):
                root(e, 2)

    def test_items_and_low(self):
        for bad in (True, False, None, "1", (1,), [1], of_integer(1)):
            with self.assertRaises(Malformed):
                Cyclo(3, (1, bad))
            with self.assertRaises(Malformed):
                Cyclo(3, [bad])
            with self.assertRaises(Malformed):
                Cyclo(3, (1, 2), bad)
        with self.assertRaises(Malformed):
            of_integer(True)

    def test_no_items(self):
        for bad in (None, 1, "12", {0: 1}, root(3)):
            with self.assertRaises(Malformed):
                Cyclo(3, bad)

    def test_signs_between_other_values(self):
        for value in (1, None, "1", (1,)):
            for act in (lambda: root(3) + value, lambda: root(3) - value, lambda: root(3) * value):
                with self.assertRaises(TypeError):
                    act()

    def test_low_zero(self):
        with self.assertRaises(ZeroDivisor):
            Cyclo(3, (1, 2), 0)
        with self.assertRaises(ZeroDivisor):
            Cyclo(1, (), 0)

    def test_over_zero(self):
        for number in (root(5), of_integer(0), of_integer(3)):
            with self.assertRaises(ZeroDivisor):
                number.over(0)

    def test_image(self):
        for k in (True, False, None, "1", (1,), 0, 2, 3, -3, 6, 14):
            with self.assertRaises(Malformed):
                root(12).image(k)
        for k in (True, False, None):
            with self.assertRaises(Malformed):
                of_integer(4).image(k)

    def test_joint_e_above_5000(self):
        a, b = root(71), root(73)
        for act in (lambda: a + b, lambda: a - b, lambda: a * b, lambda: added([a, b, -b])):
            with self.assertRaises(Malformed):
                act()
        self.assertEqual(added([b, -b, a]), a)
        a, b = root(50), root(99)
        self.assertEqual((a * b).e, 25 * 99)
        self.assertEqual((root(8) * root(625)).e, 5000)
        with self.assertRaises(Malformed):
            root(16) * root(625)


class Arithmetic(unittest.TestCase):
    def test_against_complex_numbers(self):
        numbers = [Cyclo(e, items, low) for e, items, low in SAMPLES]
        for a in numbers:
            for b in numbers:
                self.assertAlmostEqual(near(a + b), near(a) + near(b), places=6)
                self.assertAlmostEqual(near(a - b), near(a) - near(b), places=6)
                self.assertAlmostEqual(near(a * b), near(a) * near(b), places=5)

    def test_against_items(self):
        for e, items, low in SAMPLES:
            for f, others, bottom in SAMPLES:
                wide = e * f
                a, b = [0] * wide, [0] * wide
                for k, c in enumerate(items):
                    a[k % e * f] += c
                for k, c in enumerate(others):
                    b[k % f * e] += c
                one, two = Cyclo(e, items, low), Cyclo(f, others, bottom)
                total = Cyclo(wide, [x * bottom + y * low for x, y in zip(a, b)], low * bottom)
                less = Cyclo(wide, [x * bottom - y * low for x, y in zip(a, b)], low * bottom)
                self.assertEqual((one + two).key(), total.key())
                self.assertEqual((one - two).key(), less.key())

    def test_products_against_items(self):
        for e, items, low in SAMPLES:
            for times in (1, 2, 3):
                f = e * times
                others = [3, -1, 0, 2, 5][:f]
                wide = [0] * ((len(items) - 1) * times + 1)
                for k, c in enumerate(items):
                    wide[k * times] = c
                told = Cyclo(f, multiplied(wide, others), low * 2)
                self.assertEqual((Cyclo(e, items, low) * Cyclo(f, others, 2)).key(), told.key())

    def test_roots_multiply_by_adding_exponents(self):
        for e in range(1, 25):
            for k in range(e):
                self.assertEqual(root(e) * root(e, k), root(e, k + 1))
                self.assertEqual(root(e, k) * root(e, -k), of_integer(1))

    def test_roots_agree(self):
        for e in range(1, 37):
            for d in range(1, e + 1):
                if e % d == 0:
                    self.assertEqual(root(e, e // d), root(d))
                    self.assertEqual(root(e).power(e // d), root(d))

    def test_root(self):
        self.assertEqual(root(5), root(5, 1))
        self.assertEqual(root(5, -2), root(5, 3))
        self.assertEqual(root(5, -10 ** 20), of_integer(1))
        self.assertEqual(root(7, 10 ** 20), root(7, 10 ** 20 % 7))
        self.assertEqual(root(2), of_integer(-1))
        self.assertEqual(root(1, 9), of_integer(1))
        self.assertEqual(root(12, -1).key(), (12, (0, 1, 0, -1), 1))

    def test_negative_multiples_quotients(self):
        for e, items, low in SAMPLES:
            number = Cyclo(e, items, low)
            self.assertEqual((-number).key(), Cyclo(e, [-c for c in items], low).key())
            self.assertEqual((number + -number).key(), (1, (0,), 1))
            for n in (-3, -1, 1, 2, 12):
                self.assertEqual(number.scaled(n).key(), Cyclo(e, [c * n for c in items], low).key())
                self.assertEqual(number.over(n).key(), Cyclo(e, items, low * n).key())
                self.assertEqual(number.scaled(n).over(n), number)
            self.assertEqual(number.scaled(0).key(), (1, (0,), 1))

    def test_powers(self):
        for e, items, low in SAMPLES:
            number = Cyclo(e, items, low)
            product = of_integer(1)
            for k in range(7):
                self.assertEqual(number.power(k), product)
                product = product * number
        self.assertEqual(of_integer(0).power(0), of_integer(1))
        self.assertEqual(of_integer(0).power(5), of_integer(0))
        self.assertEqual(of_integer(2).power(300).whole(), 2 ** 300)
        self.assertEqual(root(7).power(10 ** 30), root(7, 10 ** 30 % 7))

    def test_added(self):
        numbers = [root(3), root(4), of_integer(2), root(3, 2)]
        total = numbers[0] + numbers[1] + numbers[2] + numbers[3]
        self.assertEqual(added(numbers), total)
        self.assertEqual(added(tuple(numbers)), total)
        self.assertEqual(len(numbers), 4)
        self.assertEqual(added([]), of_integer(0))
        self.assertEqual(added(()), of_integer(0))
        self.assertEqual(added([root(5)]), root(5))

    def test_objects_unchanged(self):
        a, b = root(8), root(12) + of_integer(3)
        before = a.key(), b.key()
        a + b, a - b, a * b, -a, a.over(2), a.scaled(3), a.power(5), a.mirrored(), a.image(3), a.norm_square()
        str(a), a.is_zero(), a.rational(), a.whole(), a == b
        self.assertEqual((a.key(), b.key()), before)


class Equality(unittest.TestCase):
    def test_same_form(self):
        self.assertIs(root(6) == -root(3, 2), True)
        self.assertIs(root(6) != -root(3, 2), False)
        self.assertIs(Cyclo(4, (2, 4), 2) == Cyclo(4, (1, 2)), True)

    def test_other_forms(self):
        self.assertIs(root(5) == root(5, 2), False)
        self.assertIs(root(5) == root(7), False)
        self.assertIs(root(5) == root(5).over(2), False)
        self.assertIs(of_integer(1) == of_integer(2), False)
        self.assertEqual(root(5).parts, root(8).parts)
        self.assertIs(root(5) == root(8), False)
        self.assertIs(root(5) != root(5, 2), True)

    def test_other_values(self):
        one = of_integer(1)
        for value in (1, True, None, "1", (1, (1,), 1), [1], one.key(), object()):
            self.assertIs(one == value, False)
            self.assertIs(value == one, False)


class Images(unittest.TestCase):
    def test_images_of_roots(self):
        for e in range(1, 25):
            for k in range(-e, 2 * e + 1):
                if gcd(k, e) == 1:
                    for j in range(e):
                        number = root(e, j)
                        if gcd(k, number.e) == 1:
                            self.assertEqual(number.image(k), root(e, j * k), (e, j, k))

    def test_images_of_sums_and_products(self):
        numbers = [Cyclo(e, items, low) for e, items, low in SAMPLES]
        for k in (1, 7, -1, 31, -11):
            for a in numbers:
                for b in (root(15) + of_integer(2), root(8).over(3)):
                    if gcd(k, a.e * b.e * 2) == 1:
                        self.assertEqual((a + b).image(k), a.image(k) + b.image(k))
                        self.assertEqual((a * b).image(k), a.image(k) * b.image(k))

    def test_images_of_rational_numbers(self):
        for k in (0, 1, -1, 2, 10 ** 20):
            self.assertEqual(Cyclo(1, (3,), 5).image(k), Cyclo(1, (3,), 5))

    def test_conjugates(self):
        for e, items, low in SAMPLES:
            number = Cyclo(e, items, low)
            self.assertAlmostEqual(near(number.mirrored()), near(number).conjugate(), places=6)
            self.assertEqual(number.mirrored().mirrored(), number)
            self.assertEqual(number.mirrored(), number.image(-1))
            self.assertEqual(number.norm_square(), number * number.mirrored())
            self.assertEqual(number.norm_square(), number.mirrored().norm_square())
        self.assertEqual(root(5, 2).mirrored(), root(5, 3))
        self.assertEqual(root(5, 2).norm_square(), of_integer(1))
        self.assertEqual(Cyclo(4, (3, 4), 5).norm_square(), of_integer(1))


class Kinds(unittest.TestCase):
    def test_is_zero(self):
        self.assertIs(of_integer(0).is_zero(), True)
        self.assertIs((root(3) + root(3, 2) + of_integer(1)).is_zero(), True)
        self.assertIs(of_integer(1).is_zero(), False)
        self.assertIs(root(5).is_zero(), False)
        self.assertIs((root(4) * Cyclo(1, (1,), 7)).is_zero(), False)

    def test_rational(self):
        self.assertEqual(Cyclo(1, (6,), -4).rational(), (-3, 2))
        self.assertEqual(of_integer(0).rational(), (0, 1))
        self.assertEqual((root(3) + root(3, 2)).over(2).rational(), (-1, 2))
        self.assertIsNone(root(3).rational())
        self.assertIsNone(root(4).over(2).rational())

    def test_whole(self):
        self.assertEqual(of_integer(-7).whole(), -7)
        self.assertEqual((root(3) + root(3, 2)).whole(), -1)
        self.assertEqual(of_integer(0).whole(), 0)
        self.assertIsNone(of_integer(7).over(2).whole())
        self.assertIsNone(root(3).whole())
        self.assertIs(type(of_integer(1).whole()), int)


if __name__ == "__main__":
    unittest.main()
