import random
import unittest
from itertools import permutations, product

from classtable.eigenvalues import eigenvalues


def determinant(rows):
    total = 0
    for images in permutations(range(len(rows))):
        term = 1
        for at, to in enumerate(images):
            term *= rows[at][to]
        wrong = sum(images[a] > images[b] for a in range(len(rows)) for b in range(a, len(rows)))
        total += term * (-1) ** wrong
    return total


def told(rows, p):
    many = range(len(rows))
    return [s for s in range(p) if determinant([[rows[i][j] - s * (i == j) for j in many] for i in many]) % p == 0]


class Eigenvalues(unittest.TestCase):
    def test_all_small_matrices(self):
        for p, size in ((2, 1), (2, 2), (3, 2), (5, 2), (2, 3)):
            for items in product(range(p), repeat=size * size):
                rows = [list(items[k * size:(k + 1) * size]) for k in range(size)]
                self.assertEqual(eigenvalues(rows, p), told(rows, p), (rows, p))

    def test_greater_ones(self):
        draw = random.Random(5)
        for p in (3, 7, 31):
            for size in (3, 4, 5):
                for _ in range(15):
                    rows = [[draw.choice((0, 0, 1, draw.randrange(-p, 2 * p))) for _ in range(size)] for _ in range(size)]
                    self.assertEqual(eigenvalues(rows, p), told(rows, p), (rows, p))

    def test_blocks(self):
        self.assertEqual(eigenvalues(((1, 0, 0), (0, 1, 0), (0, 0, 1)), 7), [1])
        self.assertEqual(eigenvalues(((3, 1, 0), (0, 3, 0), (0, 0, 5)), 7), [3, 5])
        self.assertEqual(eigenvalues(((0, 1), (-1, 0)), 7), [])
        self.assertEqual(eigenvalues(((0, 1), (-1, 0)), 5), [2, 3])
        self.assertEqual(eigenvalues((), 5), [])

    def test_great_matrices(self):
        turned = [[1 if j == (i + 1) % 59 else 0 for j in range(59)] for i in range(59)]
        self.assertEqual(eigenvalues(turned, 709), [s for s in range(709) if pow(s, 59, 709) == 1])
        turned = [[1 if j // 2 == i // 2 and j != i else 0 for j in range(60)] for i in range(60)]
        self.assertEqual(eigenvalues(turned, 10007), [1, 10006])


if __name__ == "__main__":
    unittest.main()
