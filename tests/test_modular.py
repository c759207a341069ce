import unittest
from itertools import product as tuples

from classtable.modular import before, coordinates, eigenspaces, kernel, product, reduced, times

MATRICES = [
    ((), 0), ((), 3), (((0, 0),), 2), (((0, 0, 0), (0, 0, 0)), 3), (((1, 1, 0), (1, 1, 0)), 3), (((0, 1, 1), (0, 0, 1)), 3),
    (((1, 0, 1), (0, 1, 1), (1, 1, 0)), 3), (((1, 2, 3), (2, 4, 1), (0, 0, 4)), 3), (((0, 2, 1, 4), (3, 1, 0, 2)), 4),
    (((2,), (3,), (4,)), 1), (((4, 3, 2), (3, 2, 1), (2, 1, 0), (1, 1, 1)), 3), (((), ()), 0), (((0, 0, 2), (0, 3, 1)), 3),
]

SQUARES = [
    (), ((0,),), ((3,),), ((1, 0), (0, 1)), ((0, 1), (0, 0)), ((0, 1), (1, 0)), ((0, 1), (4, 0)), ((1, 1), (0, 1)),
    ((2, 1), (1, 3)), ((1, 2, 0), (0, 1, 0), (0, 0, 4)), ((0, 1, 0), (0, 0, 1), (1, 0, 0)), ((1, 1, 1), (1, 1, 1), (1, 1, 1)),
    ((0, 0, 0), (0, 0, 0), (0, 0, 0)), ((2, 0, 0), (1, 2, 0), (0, 3, 1)),
]


def modulo(rows, p):
    return tuple(tuple(c % p for c in row) for row in rows)


def span(rows, width, p):
    found = set()
    for multiples in tuples(range(p), repeat=len(rows)):
        found.add(tuple(sum(m * row[k] for m, row in zip(multiples, rows)) % p for k in range(width)))
    return found


class Case(unittest.TestCase):
    def assert_reduced(self, rows, pivots, width):
        self.assertIsInstance(rows, tuple)
        self.assertIsInstance(pivots, tuple)
        self.assertEqual(len(rows), len(pivots))
        self.assertEqual(sorted(set(pivots)), list(pivots))
        for row, pivot in zip(rows, pivots):
            self.assertIsInstance(row, tuple)
            self.assertEqual(len(row), width)
            self.assertEqual(row[:pivot], (0,) * pivot)
            self.assertEqual([other[pivot] for other in rows], [int(other is row) for other in rows])


class Reduced(Case):
    def test_form_and_span(self):
        for p in (2, 3, 5):
            for rows, width in MATRICES:
                rows = modulo(rows, p)
                basis, pivots = reduced(rows, width, p)
                self.assert_reduced(basis, pivots, width)
                self.assertEqual(span(basis, width, p), span(rows, width, p), (rows, p))
                self.assertEqual(len(span(rows, width, p)), p ** len(basis))

    def test_one_matrix_for_each_space(self):
        for p in (2, 3):
            found = {}
            for rows in tuples(tuples(range(p), repeat=3), repeat=2):
                found.setdefault(tuple(sorted(span(rows, 3, p))), set()).add(reduced(rows, 3, p))
            self.assertTrue(all(len(forms) == 1 for forms in found.values()))

    def test_without_rows(self):
        self.assertEqual(reduced((), 4, 5), ((), ()))
        self.assertEqual(reduced(((0, 0),), 2, 5), ((), ()))

    def test_some(self):
        self.assertEqual(reduced(((0, 2, 4), (3, 1, 1)), 3, 5), (((1, 0, 3), (0, 1, 2)), (0, 1)))
        self.assertEqual(reduced([[1, 1], [1, 1], [0, 1]], 2, 2), (((1, 0), (0, 1)), (0, 1)))

    def test_arguments_unchanged(self):
        rows = [[3, 1], [1, 2]]
        reduced(rows, 2, 5), kernel(rows, 2, 5), eigenspaces(rows, 5), coordinates(rows, [1, 1], 5)
        product(rows, rows, 2, 5), times(rows, [1, 1], 5), before([1, 1], rows, 2, 5)
        self.assertEqual(rows, [[3, 1], [1, 2]])


class Kernel(Case):
    def test_kernel(self):
        for p in (2, 3, 5):
            for rows, width in MATRICES:
                rows = modulo(rows, p)
                _, pivots = reduced(rows, width, p)
                free = [k for k in range(width) if k not in pivots]
                found = kernel(rows, width, p)
                self.assertIsInstance(found, tuple)
                self.assertEqual(len(found), len(free))
                for column, vector in zip(free, found):
                    self.assertEqual(len(vector), width)
                    self.assertEqual([vector[k] for k in free], [int(k == column) for k in free])
                walked = {v for v in tuples(range(p), repeat=width)
                          if all(sum(x * y for x, y in zip(row, v)) % p == 0 for row in rows)}
                self.assertEqual(span(found, width, p), walked)

    def test_some(self):
        self.assertEqual(kernel((), 2, 7), ((1, 0), (0, 1)))
        self.assertEqual(kernel(((1, 2, 3),), 3, 5), ((3, 1, 0), (2, 0, 1)))
        self.assertEqual(kernel(((1, 0), (0, 1)), 2, 2), ())


class Coordinates(Case):
    def test_coordinates(self):
        for p in (2, 3, 5):
            for rows, width in MATRICES:
                basis, _ = reduced(modulo(rows, p), width, p)
                # independent rows that are not reduced
                mixed = tuple(tuple(sum(row[k] for row in basis[:at + 1]) % p for k in range(width)) for at in range(len(basis)))
                for vector in tuples(range(p), repeat=width):
                    found = coordinates(mixed, vector, p)
                    if found is None:
                        self.assertNotIn(vector, span(mixed, width, p))
                    else:
                        self.assertIsInstance(found, tuple)
                        self.assertEqual(len(found), len(mixed))
                        self.assertTrue(all(0 <= m < p for m in found))
                        self.assertEqual(vector, tuple(
                            sum(m * row[k] for m, row in zip(found, mixed)) % p for k in range(width)))

    def test_without_rows(self):
        self.assertEqual(coordinates((), (), 3), ())
        self.assertEqual(coordinates((), (0, 0), 3), ())
        self.assertIsNone(coordinates((), (0, 1), 3))

    def test_some(self):
        self.assertEqual(coordinates(((1, 1), (1, 2)), (0, 1), 5), (4, 1))
        self.assertIsNone(coordinates(((1, 1, 0),), (1, 2, 0), 5))


class Products(Case):
    def test_times(self):
        self.assertEqual(times(((1, 2), (3, 4), (0, 0)), (2, 3), 5), (3, 3, 0))
        self.assertEqual(times((), (1, 2), 5), ())
        self.assertEqual(times(((), ()), (), 5), (0, 0))
        self.assertEqual(times(((1, 1),), (1, 1), 2), (0,))

    def test_before(self):
        self.assertEqual(before((2, 3), ((1, 2, 0), (3, 4, 1)), 3, 5), (1, 1, 3))
        self.assertEqual(before((), (), 3, 5), (0, 0, 0))
        self.assertEqual(before((1, 1), ((), ()), 0, 5), ())
        self.assertEqual(before((0, 1), ((1, 1), (1, 0)), 2, 2), (1, 0))
        self.assertEqual(before((1, 1), ((1, 1), (1, 0)), 2, 2), (0, 1))

    def test_product(self):
        for p in (2, 3, 7):
            a, b = modulo(((1, 2, 3), (4, 5, 6)), p), modulo(((1, 0), (2, 5), (3, 1)), p)
            told = tuple(tuple(sum(a[i][k] * b[k][j] for k in range(3)) % p for j in range(2)) for i in range(2))
            self.assertEqual(product(a, b, 2, p), told)
            for k in range(2):
                self.assertEqual(before(a[k], b, 2, p), told[k])
                self.assertEqual(times(a, tuple(row[k] for row in b), p), tuple(row[k] for row in told))

    def test_product_without_rows(self):
        self.assertEqual(product((), ((1, 2),), 2, 5), ())
        self.assertEqual(product(((), ()), (), 3, 5), ((0, 0, 0), (0, 0, 0)))
        self.assertEqual(product(((1,), (2,)), ((),), 0, 5), ((), ()))


class Eigenspaces(Case):
    def test_by_walking_all_vectors(self):
        for p in (2, 3, 5):
            for rows in SQUARES:
                rows = modulo(rows, p)
                width = len(rows)
                walked = {}
                for v in tuples(range(p), repeat=width):
                    image = tuple(sum(v[k] * rows[k][j] for k in range(width)) % p for j in range(width))
                    for s in range(p):
                        if image == tuple(s * c % p for c in v):
                            walked.setdefault(s, set()).add(v)
                found = eigenspaces(rows, p)
                self.assertIsInstance(found, tuple)
                self.assertEqual([s for s, _ in found], [s for s in range(p) if len(walked.get(s, ())) > 1])
                for s, basis in found:
                    self.assertEqual(span(basis, width, p), walked[s])
                    self.assertEqual(reduced(basis, width, p)[0], basis)

    def test_rows_and_not_columns(self):
        self.assertEqual(eigenspaces(((0, 1), (0, 0)), 3), ((0, ((0, 1),)),))

    def test_some(self):
        self.assertEqual(eigenspaces((), 5), ())
        self.assertEqual(eigenspaces(((0, 1), (1, 0)), 2), ((1, ((1, 1),)),))
        self.assertEqual(eigenspaces(((0, 1), (1, 0)), 3), ((1, ((1, 1),)), (2, ((1, 2),))))
        self.assertEqual(eigenspaces(((0, 1), (2, 0)), 3), ())
        self.assertEqual(eigenspaces(((4, 0), (0, 4)), 7), ((4, ((1, 0), (0, 1))),))


if __name__ == "__main__":
    unittest.main()
