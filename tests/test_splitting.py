import random
import time
import unittest
from itertools import product

from classtable.classes import classes
from classtable.constants import class_matrices
from classtable.errors import Refused
from classtable.group import cyclic, direct
from classtable.permutation import identity
from classtable.splitting import is_modular_row, modular_rows, prime_of, root_of, split
from tests.samples import ALL_KINDS, GROUPS

NO_ROWS = (
    None, True, False, 0, 1, 5, "", "11", "1,1", (), [], {}, (1,), (1, 1, 1, 1, 1, 1, 1), [1, 1], (True, True), (True, 1), (1, True),
    (1, None), (1, "1"), (1, (1,)), ((1, 1),), (1, -1), (1, -2), (1, 3), (1, 4), (1, 10 ** 40 + 1), (0, 0), (2, 1), (0, 1),
    (1, 0), (1, [1]), object(), cyclic(2), identity(2), (1, cyclic(2)))


def is_prime_by_trial(n):
    return n > 1 and all(n % d for d in range(2, n))


def multiplies(matrices, p, row):
    """True if the products of the numbers are the sums that the matrices say, modulo p."""
    many = range(len(row))
    return all((row[i] * row[j] - sum(matrices[i][j][k] * row[k] for k in many)) % p == 0 for i in many for j in many)


def other_primes(group):
    """Two other primes that are 1 more than a multiple of the exponent, above twice the order."""
    e, n = group.exponent(), len(group)
    return [p for p in range(2 * n + 1, 2 * n + 50 * e + 50) if p % e == 1 % e and is_prime_by_trial(p)][1:3]


class Primes(unittest.TestCase):
    def test_prime_by_trial(self):
        for n in range(1, 61):
            for e in range(1, n + 1):
                if n % e == 0:
                    told = next(p for p in range(2, 10 ** 6) if (p - 1) % e == 0 and p * p > 4 * n and is_prime_by_trial(p))
                    self.assertEqual(prime_of(n, e), told, (n, e))

    def test_prime_at_a_square(self):
        # 4 n is the square of a number beside a prime, or of the prime itself.
        self.assertEqual(prime_of(1, 1), 3)
        self.assertEqual([prime_of(n, 1) for n in (2, 3, 4, 9, 30, 36)], [3, 5, 5, 7, 11, 13])
        self.assertEqual(prime_of(59, 59), 709)
        self.assertEqual(prime_of(60, 60), 61)

    def test_root_by_powers(self):
        for p in (2, 3, 5, 7, 31, 61, 97, 109):
            for e in range(1, p):
                if (p - 1) % e == 0:
                    orders = {}
                    for z in range(1, p):
                        orders.setdefault(next(k for k in range(1, p) if pow(z, k, p) == 1), z)
                    self.assertEqual(root_of(p, e), orders[e], (p, e))

    def test_root_of_greater_primes(self):
        self.assertEqual(root_of(709, 59), min(z for z in range(2, 709) if pow(z, 59, 709) == 1))
        self.assertEqual(root_of(10 ** 9 + 7, 2), 10 ** 9 + 6)
        self.assertEqual(root_of(10 ** 9 + 7, 1), 1)


class Rows(unittest.TestCase):
    def test_modular_rows(self):
        for name, group in list(ALL_KINDS.items()) + [("alternating5", GROUPS["alternating5"])]:
            p, rows = modular_rows(group)
            self.assertEqual(p, prime_of(len(group), group.exponent()))
            self.check_rows(class_matrices(group), p, rows, name)

    def check_rows(self, matrices, p, rows, name):
        self.assertIsInstance(rows, tuple)
        self.assertEqual(len(rows), len(matrices), name)
        self.assertEqual(len(set(rows)), len(rows))
        self.assertEqual(list(rows), sorted(rows))
        for row in rows:
            self.assertIsInstance(row, tuple)
            self.assertEqual(len(row), len(matrices))
            self.assertEqual(row[0], 1)
            self.assertTrue(all(0 <= w < p for w in row))
            self.assertTrue(multiplies(matrices, p, row), name)
            self.assertIs(is_modular_row(matrices, p, row), True)

    def test_by_trying_all_rows(self):
        for group in (cyclic(1), cyclic(2), cyclic(3), GROUPS["four-group"], GROUPS["symmetric3"]):
            p, rows = modular_rows(group)
            matrices = class_matrices(group)
            told = [(1,) + rest for rest in product(range(p), repeat=len(matrices) - 1)]
            self.assertEqual(list(rows), [row for row in told if multiplies(matrices, p, row)])
            for row in told:
                self.assertIs(is_modular_row(matrices, p, row), row in rows)

    def test_some(self):
        self.assertEqual(modular_rows(cyclic(1)), (3, ((1,),)))
        self.assertEqual(modular_rows(cyclic(2)), (3, ((1, 1), (1, 2))))
        self.assertEqual(modular_rows(GROUPS["symmetric3"]), (7, ((1, 0, 6), (1, 3, 2), (1, 4, 2))))

    def test_other_primes(self):
        for name, group in ALL_KINDS.items():
            matrices = class_matrices(group)
            for p in other_primes(group):
                self.check_rows(matrices, p, split(matrices, p), name)

    def test_order_60(self):
        start = time.monotonic()
        for group in (GROUPS["alternating5"], cyclic(60), cyclic(59), direct(cyclic(30), cyclic(2))):
            self.assertEqual(len(modular_rows(group)[1]), len(classes(group)))
        self.assertLess(time.monotonic() - start, 20)


class AnyMatrices(unittest.TestCase):
    """The way of point 4.3 holds for square matrices that are not those of a group."""

    def refused(self, matrices, p):
        with self.assertRaises(Refused) as caught:
            split(matrices, p)
        self.assertEqual(caught.exception.reason, "split")

    def test_a_dimension_above_1(self):
        unit = ((1, 0), (0, 1))
        self.refused((unit, unit), 5)
        self.refused((unit,), 5)
        self.refused((((1, 0), (0, 2)),), 5)
        matrices = class_matrices(GROUPS["symmetric4"])
        self.refused((matrices[0],) * 5, 13)
        self.refused(matrices[:2], 13)

    def test_0_at_the_first_place(self):
        self.refused((((1, 0), (0, 1)), ((1, 0), (0, 2))), 5)
        self.refused((((1, 0), (0, 1)), ((1, 0), (1, 1))), 5)

    def test_no_eigenvalue(self):
        unit = ((1, 0), (0, 1))
        self.assertEqual(split((unit, ((0, 1), (2, 0))), 3), ())
        self.assertEqual(split((unit, ((0, 1), (1, 0))), 3), ((1, 1), (1, 2)))

    def test_only_spaces_above_dimension_1_are_parted(self):
        unit = ((1, 0), (0, 1))
        # The first matrix has one space, of dimension 1, the second one has no eigenvectors at all.
        self.assertEqual(split((unit, ((1, 1), (0, 1))), 3), ((1, 0),))
        self.assertEqual(split((unit, ((1, 1), (0, 1)), ((0, 1), (2, 0))), 3), ((1, 0),))

    def test_one_row(self):
        self.assertEqual(split((((0,),),), 3), ((1,),))
        self.assertEqual(split((((1,),), ((2,),)), 3), ((1,),))

    def test_spaces_that_a_matrix_does_not_keep(self):
        # The first two columns are parted from the third one; the second matrix takes them out of their space.
        first = ((1, 0, 0), (0, 1, 0), (1, 0, 2))
        for second in (((1, 0, 0), (0, 2, 0), (0, 1, 0)), ((0, 0, 1), (0, 1, 0), (1, 0, 0)), ((1, 0, 1), (0, 1, 0), (1, 1, 1))):
            self.check_by_trying((first, first, second), 5)

    def test_by_trying_all_columns(self):
        draw = random.Random(3)
        for p in (2, 3, 5):
            for size in (1, 2, 3):
                for _ in range(40):
                    matrices = tuple(tuple(tuple(draw.choice((0, 0, 1, draw.randrange(p))) for _ in range(size))
                                           for _ in range(size)) for _ in range(size))
                    self.check_by_trying(matrices, p)

    def check_by_trying(self, matrices, p):
        size = len(matrices[0])

        def times(matrix, column):
            return tuple(sum(x * y for x, y in zip(row, column)) % p for row in matrix)

        spaces = [list(product(range(p), repeat=size))]
        for matrix in matrices[1:]:
            parts = []
            for space in spaces:
                if len(space) <= p:
                    parts.append(space)
                else:
                    cut = [[v for v in space if times(matrix, v) == tuple(t * x % p for x in v)] for t in range(p)]
                    parts += [part for part in cut if len(part) > 1]
            spaces = parts
        if any(len(space) > p or all(v[0] == 0 for v in space) for space in spaces):
            self.refused(matrices, p)
        else:
            self.assertEqual(split(matrices, p), tuple(sorted(v for space in spaces for v in space if v[0] == 1)))


class IsModularRow(unittest.TestCase):
    def test_changed_rows(self):
        for group in ALL_KINDS.values():
            p, rows = modular_rows(group)
            matrices = class_matrices(group)
            for row in rows[:4]:
                for k, w in enumerate(row):
                    for other in {0, 1, (w + 1) % p, (w - 1) % p, -w % p, 2 * w % p}:
                        changed = row[:k] + (other,) + row[k + 1:]
                        self.assertIs(is_modular_row(matrices, p, changed), changed in rows)

    def test_other_forms(self):
        for group in ALL_KINDS.values():
            p, rows = modular_rows(group)
            matrices = class_matrices(group)
            for row in rows[:3]:
                wrong = [list(row), row[:-1], row + (0,), row + (1,), (row,), (True,) + row[1:], None, str(row)]
                for k, w in enumerate(row):
                    wrong += [row[:k] + (other,) + row[k + 1:] for other in (w + p, w - p, str(w), (w,), None)]
                    if w < 2:
                        wrong.append(row[:k] + (w == 1,) + row[k + 1:])
                for value in wrong:
                    self.assertIs(is_modular_row(matrices, p, value), False, value)

    def test_every_value(self):
        for group in (cyclic(2), GROUPS["symmetric3"], cyclic(1)):
            p, rows = modular_rows(group)
            for value in NO_ROWS:
                if value not in rows or (isinstance(value, tuple) and any(isinstance(w, bool) for w in value)):
                    self.assertIs(is_modular_row(class_matrices(group), p, value), False, value)
        self.assertIs(is_modular_row(class_matrices(cyclic(2)), 3, (1, 2)), True)


if __name__ == "__main__":
    unittest.main()
