import unittest

from classtable.classes import class_numbers, classes, inverse_classes
from classtable.constants import (
    central_product, class_matrices, class_matrix, class_sizes, commuting_pairs, constant, triples)
from classtable.group import cyclic
from tests.samples import ALL_KINDS, GROUPS


def counted(group):
    """A dict from (i, j, z) to the number of the pairs of the classes i and j with the product z."""
    numbers = class_numbers(group)
    found = {}
    for x in range(len(group)):
        for y in range(len(group)):
            place = numbers[x], numbers[y], group.product(x, y)
            found[place] = found.get(place, 0) + 1
    return found


def all_constants(group):
    """The constants as the program tells them, as nested lists."""
    many = range(len(classes(group)))
    return [[[constant(group, i, j, k) for k in many] for j in many] for i in many]


def few_kinds():
    """Groups for the tests that go over all triples of classes with slow functions."""
    return [group for group in ALL_KINDS.values() if len(classes(group)) <= 6]


class Constants(unittest.TestCase):
    def test_by_counting_all_pairs(self):
        for name, group in list(ALL_KINDS.items()) + [("alternating5", GROUPS["alternating5"])]:
            pairs = counted(group)
            matrices = class_matrices(group)
            for i in range(len(matrices)):
                for j in range(len(matrices)):
                    for k, members in enumerate(classes(group)):
                        for z in members:
                            self.assertEqual(matrices[i][j][k], pairs.get((i, j, z), 0), (name, i, j, z))

    def test_one_constant_and_one_matrix(self):
        for group in few_kinds():
            matrices = class_matrices(group)
            self.assertEqual(all_constants(group), [[list(row) for row in matrix] for matrix in matrices])
            for i, matrix in enumerate(matrices):
                self.assertEqual(class_matrix(group, i), matrix)

    def test_kinds_of_values(self):
        matrices = class_matrices(GROUPS["symmetric3"])
        self.assertEqual(matrices, (
            ((1, 0, 0), (0, 1, 0), (0, 0, 1)), ((0, 1, 0), (3, 0, 3), (0, 2, 0)), ((0, 0, 1), (0, 2, 0), (2, 0, 1))))
        for matrix in (matrices, matrices[1], class_matrix(GROUPS["symmetric3"], 1)):
            self.assertIsInstance(matrix, tuple)
            self.assertTrue(all(isinstance(row, tuple) for row in matrix))
        self.assertEqual(constant(GROUPS["alternating5"], 2, 2, 0), 20)
        self.assertEqual(class_matrices(cyclic(1)), (((1,),),))

    def test_order_of_the_first_two(self):
        for group in ALL_KINDS.values():
            matrices = class_matrices(group)
            for i, matrix in enumerate(matrices):
                for j, row in enumerate(matrix):
                    self.assertEqual(row, matrices[j][i])

    def test_the_class_of_the_unit(self):
        for group in ALL_KINDS.values():
            matrices, opposites, sizes = class_matrices(group), inverse_classes(group), class_sizes(group)
            many = range(len(matrices))
            for i in many:
                for j in many:
                    self.assertEqual(matrices[0][i][j], 1 if i == j else 0)
                    self.assertEqual(matrices[i][j][0], sizes[i] if j == opposites[i] else 0)

    def test_sum_with_the_sizes(self):
        for group in ALL_KINDS.values():
            sizes = class_sizes(group)
            for i, matrix in enumerate(class_matrices(group)):
                for j, row in enumerate(matrix):
                    self.assertEqual(sum(a * h for a, h in zip(row, sizes)), sizes[i] * sizes[j])

    def test_inverses(self):
        for group in ALL_KINDS.values():
            matrices, opposites, sizes = class_matrices(group), inverse_classes(group), class_sizes(group)
            many = range(len(matrices))
            for i in many:
                for j in many:
                    for k in many:
                        told = matrices[i][j][k]
                        self.assertEqual(matrices[opposites[i]][opposites[j]][opposites[k]], told)
                        self.assertEqual(sizes[k] * matrices[i][j][opposites[k]],
                                         sizes[i] * matrices[j][k][opposites[i]])

    def test_products_of_three(self):
        for group in few_kinds():
            a = class_matrices(group)
            many = range(len(a))
            for i in many:
                for j in many:
                    for k in many:
                        for s in many:
                            self.assertEqual(sum(a[i][j][m] * a[m][k][s] for m in many),
                                             sum(a[j][k][m] * a[i][m][s] for m in many))

    def test_the_matrices_commute(self):
        def multiplied(a, b):
            return [[sum(x * y for x, y in zip(row, column)) for column in zip(*b)] for row in a]

        for group in [*few_kinds(), GROUPS["alternating5"], GROUPS["dihedral6"], cyclic(12)]:
            matrices = class_matrices(group)
            for a in matrices:
                for b in matrices:
                    self.assertEqual(multiplied(a, b), multiplied(b, a))


class Sums(unittest.TestCase):
    def test_central_product(self):
        for name, group in ALL_KINDS.items():
            numbers, found = class_numbers(group), classes(group)
            x = tuple((7 * i + 3) % 11 - 5 for i in range(len(found)))
            y = tuple((5 * i * i + 4) % 9 - 3 for i in range(len(found)))
            total = [0] * len(group)
            for g in range(len(group)):
                for h in range(len(group)):
                    total[group.product(g, h)] += x[numbers[g]] * y[numbers[h]]
            told = central_product(group, x, y)
            self.assertIsInstance(told, tuple)
            self.assertEqual(len(told), len(found))
            for k, members in enumerate(found):
                self.assertEqual({total[z] for z in members}, {told[k]}, name)

    def test_central_product_of_class_sums(self):
        for name in ("symmetric4", "alternating5", "quaternion"):
            group = GROUPS[name]
            many = range(len(classes(group)))
            units = [tuple(1 if k == i else 0 for k in many) for i in many]
            for i in many:
                for j in many:
                    self.assertEqual(central_product(group, units[i], units[j]), class_matrix(group, i)[j])
        self.assertEqual(central_product(cyclic(2), (0, 0), (10 ** 30, 1)), (0, 0))
        self.assertEqual(central_product(cyclic(2), (1, -1), (10 ** 30, 1)), (10 ** 30 - 1, 1 - 10 ** 30))

    def test_class_sizes(self):
        for group in ALL_KINDS.values():
            numbers = class_numbers(group)
            told = tuple(numbers.count(i) for i in range(len(classes(group))))
            self.assertEqual(class_sizes(group), told)
        self.assertEqual(class_sizes(GROUPS["symmetric4"]), (1, 3, 6, 8, 6))

    def test_triples(self):
        for group in few_kinds():
            numbers = class_numbers(group)
            found = {}
            for x in range(len(group)):
                for y in range(len(group)):
                    for z in range(len(group)):
                        if group.product(group.product(x, y), z) == 0:
                            place = numbers[x], numbers[y], numbers[z]
                            found[place] = found.get(place, 0) + 1
            many = range(len(classes(group)))
            for i in many:
                for j in many:
                    for k in many:
                        self.assertEqual(triples(group, i, j, k), found.get((i, j, k), 0))

    def test_triples_where_inverses_lie_in_other_classes(self):
        self.assertEqual(triples(cyclic(5), 1, 1, 3), 1)
        self.assertEqual(triples(cyclic(5), 1, 1, 2), 0)
        self.assertEqual(triples(GROUPS["alternating4"], 2, 2, 2), 16)
        self.assertEqual(triples(GROUPS["alternating4"], 2, 2, 3), 0)

    def test_commuting_pairs(self):
        for group in list(ALL_KINDS.values()) + [GROUPS["alternating5"]]:
            many = range(len(group))
            told = sum(group.product(x, y) == group.product(y, x) for x in many for y in many)
            self.assertEqual(commuting_pairs(group), told)
        self.assertEqual(commuting_pairs(GROUPS["alternating5"]), 300)


if __name__ == "__main__":
    unittest.main()
