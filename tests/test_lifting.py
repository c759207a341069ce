import time
import unittest

from classtable.classes import class_numbers, classes, inverse_classes
from classtable.constants import class_matrices
from classtable.cyclo import Cyclo, added, of_integer, root
from classtable.errors import Refused
from classtable.group import cyclic, direct
from classtable.lifting import central_row, characters, degree_of, lifted, modular_character, multiplicities
from classtable.splitting import modular_rows, root_of
from tests.samples import ALL_KINDS, GROUPS, KINDS

TESTED = list(ALL_KINDS.items()) + [("alternating5", GROUPS["alternating5"])]


def as_functions(group, rows):
    """The set of the rows of values at the classes, as tuples of the texts of the values at all members."""
    numbers = class_numbers(group)
    return {tuple(str(row[i]) for i in numbers) for row in rows}


def refused(test, function, *arguments):
    with test.assertRaises(Refused) as caught:
        function(*arguments)
    test.assertEqual(caught.exception.reason, "degree")


class Degrees(unittest.TestCase):
    def test_degrees(self):
        for name, group in TESTED:
            p, rows = modular_rows(group)
            opposites, sizes = inverse_classes(group), [len(members) for members in classes(group)]
            degrees = [degree_of(group, p, row) for row in rows]
            for d, row in zip(degrees, rows):
                total = sum(w * row[k] * pow(h, -1, p) for w, k, h in zip(row, opposites, sizes))
                told = [c for c in range(1, (p - 1) // 2 + 1) if (c * c * total - len(group)) % p == 0]
                self.assertEqual([d], told, name)
            self.assertEqual(sum(d * d for d in degrees), len(group))

    def test_some(self):
        p, rows = modular_rows(GROUPS["alternating5"])
        self.assertEqual(sorted(degree_of(GROUPS["alternating5"], p, row) for row in rows), [1, 3, 3, 4, 5])
        self.assertEqual([degree_of(cyclic(2), 3, row) for row in ((1, 1), (1, 2))], [1, 1])

    def test_refused(self):
        for group, p, row in ((cyclic(2), 3, (1, 0)), (cyclic(1), 3, (0,)), (cyclic(3), 7, (1, 0, 0)),
                              (GROUPS["symmetric3"], 7, (0, 0, 0)), (GROUPS["symmetric3"], 7, (1, 0, 0))):
            total = sum(w * row[k] * pow(len(members), -1, p)
                        for w, k, members in zip(row, inverse_classes(group), classes(group)))
            self.assertFalse([d for d in range(1, (p - 1) // 2 + 1) if (d * d * total - len(group)) % p == 0])
            refused(self, degree_of, group, p, row)
            refused(self, modular_character, group, p, row)

    def test_modular_character(self):
        for name, group in TESTED:
            p, rows = modular_rows(group)
            for row in rows:
                d = degree_of(group, p, row)
                told = modular_character(group, p, row)
                self.assertIsInstance(told, tuple)
                self.assertEqual(len(told), len(row))
                self.assertEqual(told[0], d)
                for c, w, members in zip(told, row, classes(group)):
                    self.assertTrue(0 <= c < p)
                    self.assertEqual(c * len(members) % p, d * w % p, name)


class Multiplicities(unittest.TestCase):
    def test_multiplicities(self):
        for name, group in TESTED:
            p, rows = modular_rows(group)
            z, e, numbers = root_of(p, group.exponent()), group.exponent(), class_numbers(group)
            for row in rows[:5]:
                character = modular_character(group, p, row)
                for i, members in enumerate(classes(group)):
                    told = multiplicities(group, p, character, i)
                    self.assertIsInstance(told, tuple)
                    o = group.order_of(members[0])
                    self.assertEqual(len(told), o)
                    self.assertTrue(all(0 <= m <= character[0] for m in told), name)
                    self.assertEqual(sum(told), character[0])
                    y = pow(z, e // o, p)
                    for g in members[::2]:
                        for j in range(o):
                            value = sum(m * pow(y, j * k, p) for k, m in enumerate(told)) % p
                            self.assertEqual(value, character[numbers[group.power(g, j)]], name)

    def test_some(self):
        self.assertEqual(multiplicities(cyclic(2), 3, (1, 2), 1), (0, 1))
        self.assertEqual(multiplicities(cyclic(2), 3, (1, 2), 0), (1,))
        # The root modulo 7 of the exponent 3 is 2.
        self.assertEqual(multiplicities(cyclic(3), 7, (1, 2, 4), 1), (0, 1, 0))
        self.assertEqual(multiplicities(cyclic(3), 7, (1, 2, 4), 2), (0, 0, 1))
        self.assertEqual(multiplicities(GROUPS["symmetric3"], 7, (2, 0, 6), 1), (1, 1))
        self.assertEqual(multiplicities(GROUPS["symmetric3"], 7, (2, 0, 6), 2), (0, 1, 1))


class Lifting(unittest.TestCase):
    def test_lifted(self):
        for name, group in TESTED:
            p, rows = modular_rows(group)
            for row in rows[:5]:
                character = modular_character(group, p, row)
                told = lifted(group, p, character)
                self.assertIsInstance(told, tuple)
                self.assertEqual(len(told), len(rows))
                for i, members in enumerate(classes(group)):
                    o = group.order_of(members[0])
                    parts = [root(o, k).scaled(m) for k, m in enumerate(multiplicities(group, p, character, i))]
                    self.assertEqual(told[i], added(parts), name)
                self.assertEqual(told[0], of_integer(character[0]))

    def test_characters_in_the_order_of_the_rows(self):
        for name, group in TESTED:
            p, rows = modular_rows(group)
            told = characters(group)
            self.assertIsInstance(told, tuple)
            self.assertEqual(len(told), len(rows))
            for (d, values), row in zip(told, rows):
                self.assertEqual(d, degree_of(group, p, row), name)
                self.assertEqual(values, lifted(group, p, modular_character(group, p, row)))
            self.assertTrue(all(isinstance(pair, tuple) and isinstance(pair[1], tuple) for pair in told))

    def test_characters_of_cyclic_groups(self):
        for n in (1, 2, 3, 4, 6, 8, 9, 12, 15):
            group = cyclic(n)
            told = {tuple(str(root(n, k * x)) for x in range(n)) for k in range(n)}
            self.assertEqual(as_functions(group, [values for _, values in characters(group)]), told)

    def test_characters_of_pairs(self):
        for one, two in ((cyclic(2), cyclic(4)), (GROUPS["symmetric3"], cyclic(3)), (GROUPS["alternating4"], cyclic(2))):
            m = len(two)
            numbers, others = class_numbers(one), class_numbers(two)
            told = {tuple(str(f[numbers[s // m]] * g[others[s % m]]) for s in range(len(one) * m))
                    for _, f in characters(one) for _, g in characters(two)}
            group = direct(one, two)
            self.assertEqual(as_functions(group, [values for _, values in characters(group)]), told)

    def test_some(self):
        group = GROUPS["alternating5"]
        golden = str(root(5, 2) + root(5, 3)), str(root(5) + root(5, 4))
        minus = [str(-(root(5, 2) + root(5, 3))), str(-(root(5) + root(5, 4)))]
        self.assertNotEqual(*golden)
        told = {tuple(str(x) for x in values) for _, values in characters(group)}
        self.assertEqual(told, {
            ("1", "1", "1", "1", "1"), ("4", "0", "1", "-1", "-1"), ("5", "1", "-1", "0", "0"),
            ("3", "-1", "0", *minus), ("3", "-1", "0", *minus[::-1])})

    def test_numbered_otherwise(self):
        for name in KINDS:
            group = KINDS[name]
            many = len(group)
            images = (0,) + tuple(range(many - 1, 0, -1))
            other = group.relabelled(images)
            # The value at x has moved to the number images[x].
            told = {tuple(row[images[x]] for x in range(many))
                    for row in as_functions(other, [values for _, values in characters(other)])}
            self.assertEqual(told, as_functions(group, [values for _, values in characters(group)]), name)

    def test_central_row(self):
        for name, group in TESTED:
            matrices = class_matrices(group)
            many = range(len(matrices))
            for d, values in characters(group)[-4:]:
                told = central_row(group, d, values)
                self.assertIsInstance(told, tuple)
                for w, x, members in zip(told, values, classes(group)):
                    self.assertEqual(w.scaled(d), x.scaled(len(members)), name)
                for i in list(many)[:5]:
                    for j in many:
                        parts = [told[k].scaled(matrices[i][j][k]) for k in many if matrices[i][j][k]]
                        self.assertEqual(told[i] * told[j], added(parts), name)

    def test_central_row_with_a_denominator(self):
        values = (of_integer(2), of_integer(1), of_integer(0))
        self.assertEqual(central_row(GROUPS["symmetric3"], 2, values), (of_integer(1), Cyclo(1, [3], 2), of_integer(0)))

    def test_order_60(self):
        start = time.monotonic()
        for group in (GROUPS["alternating5"], cyclic(60), cyclic(59), direct(cyclic(30), cyclic(2))):
            self.assertEqual(sum(d * d for d, _ in characters(group)), len(group))
        self.assertLess(time.monotonic() - start, 20)


if __name__ == "__main__":
    unittest.main()
