import time
import unittest

from classtable import classes as of_groups
from classtable.classes import classes, is_normal
from classtable.group import Group, cyclic, direct
from classtable.normal import centre, derived, elements_of, group_centre, kernel, linear, normal_subgroups
from classtable.table import character_table
from tests.samples import GROUPS, PARTED, cyclic_table, normal_sets, pairs_table

TABLES = {name: character_table(group) for name, group in PARTED.items()}
NORMAL = {name: normal_subgroups(table) for name, table in TABLES.items()}


def members_of(group, indexes):
    return tuple(sorted(x for i in indexes for x in classes(group)[i]))


class Kernels(unittest.TestCase):
    def test_kernel(self):
        for name, table in TABLES.items():
            for k, row in enumerate(table):
                told = kernel(table, k)
                self.assertIsInstance(told, tuple)
                self.assertEqual(list(told), [i for i in range(len(row)) if row[i].whole() == table.degrees()[k]], name)
                self.assertTrue(is_normal(table.group, members_of(table.group, told)), name)

    def test_centre(self):
        for name, table in TABLES.items():
            for k, row in enumerate(table):
                told = centre(table, k)
                self.assertIsInstance(told, tuple)
                squares = [(x * x.mirrored()).whole() for x in row]
                self.assertEqual(list(told), [i for i, square in enumerate(squares) if square == table.degrees()[k] ** 2], name)
                self.assertTrue(is_normal(table.group, members_of(table.group, told)), name)
                self.assertLessEqual(set(kernel(table, k)), set(told))

    def test_commutators(self):
        for table in TABLES.values():
            group = table.group
            for k in range(len(table)):
                inside = members_of(group, kernel(table, k))
                for x in members_of(group, centre(table, k)):
                    for g in range(len(group)):
                        back = group.product(group.inverse(x), group.inverse(g))
                        self.assertIn(group.product(back, group.product(x, g)), inside)

    def test_some(self):
        table = character_table(GROUPS["quaternion"])
        self.assertEqual([kernel(table, k) for k in range(5)][0], (0, 1, 2, 3, 4))
        self.assertEqual(sorted(kernel(table, k) for k in range(1, 4)), [(0, 1, 2), (0, 1, 3), (0, 1, 4)])
        self.assertEqual((kernel(table, 4), centre(table, 4)), ((0,), (0, 1)))
        self.assertEqual([centre(table, k) for k in range(4)], [(0, 1, 2, 3, 4)] * 4)
        table = character_table(GROUPS["symmetric4"])
        self.assertEqual([len(members_of(table.group, kernel(table, k))) for k in range(5)], [24, 12, 4, 1, 1])
        self.assertEqual([len(members_of(table.group, centre(table, k))) for k in range(5)], [24, 24, 4, 1, 1])


class Members(unittest.TestCase):
    def test_elements_of(self):
        for name, group in PARTED.items():
            many = len(classes(group))
            for indexes in NORMAL[name] + ((), (many - 1,), tuple(range(many))):
                told = members_of(group, indexes)
                for others in (indexes, indexes[::-1], indexes + indexes, indexes[::-1] + indexes[:1], list(indexes)):
                    self.assertEqual(elements_of(group, others), told, (name, others))
                    self.assertIsInstance(elements_of(group, others), tuple)

    def test_some(self):
        self.assertEqual(elements_of(GROUPS["symmetric3"], (2, 0, 2)), (0, 3, 4))
        self.assertEqual(elements_of(GROUPS["symmetric3"], ()), ())


class NormalSubgroups(unittest.TestCase):
    def test_all(self):
        for name, group in PARTED.items():
            self.assertIsInstance(NORMAL[name], tuple)
            self.assertEqual(list(NORMAL[name]), normal_sets(group, classes(group)), name)

    def test_example(self):
        self.assertEqual(normal_subgroups(character_table(cyclic(4))), ((0,), (0, 1), (0, 1, 2, 3)))

    def test_order_1_and_prime_orders(self):
        self.assertEqual(normal_subgroups(character_table(cyclic(1))), ((0,),))
        for p in (2, 3, 5, 7, 11, 13):
            self.assertEqual(normal_subgroups(character_table(cyclic(p))), ((0,), tuple(range(p))))
        self.assertEqual(normal_subgroups(character_table(GROUPS["alternating5"])), ((0,), (0, 1, 2, 3, 4)))

    def test_the_order_of_normal_subgroups(self):
        # In a group of order 12 the classes of a subgroup of order 3 may come behind those of one of order 4.
        for name, group in PARTED.items():
            told = [(len(members_of(group, indexes)), indexes) for indexes in NORMAL[name]]
            self.assertEqual(told, sorted(told), name)
        group = Group(pairs_table(cyclic_table(2), cyclic_table(6)))
        self.assertEqual([len(indexes) for indexes in normal_subgroups(character_table(group))], [1, 2, 2, 2, 3, 4, 6, 6, 6, 12])

    def test_many(self):
        two, three = cyclic(2), cyclic(3)
        fourth = direct(direct(two, two), direct(two, two))
        # As many as there are spaces of vectors over the numbers modulo 2 and 3.
        for group, many in ((direct(two, direct(two, two)), 16), (fourth, 67), (direct(fourth, two), 374),
                            (direct(three, direct(three, three)), 28), (direct(fourth, three), 134),
                            (direct(direct(two, two), direct(three, three)), 30)):
            told = normal_subgroups(character_table(group))
            self.assertEqual((len(told), len(set(told))), (many, many))
            self.assertTrue(all(len(group) % len(indexes) == 0 for indexes in told))

    def test_derived_centre_and_linear(self):
        for name, table in TABLES.items():
            group = table.group
            for told, members in ((derived(table), of_groups.derived(group)), (group_centre(table), of_groups.centre(group))):
                self.assertIsInstance(told, tuple)
                self.assertEqual(list(told), sorted(told))
                self.assertEqual(elements_of(group, told), members, name)
            told = linear(table)
            self.assertIsInstance(told, tuple)
            self.assertEqual(list(told), [k for k in range(len(table)) if table.degrees()[k] == 1])
            self.assertEqual(len(told) * len(of_groups.derived(group)), len(group))

    def test_order_60(self):
        start = time.monotonic()
        for group in (GROUPS["alternating5"], cyclic(60), direct(cyclic(2), cyclic(30)), direct(cyclic(5), GROUPS["dihedral6"])):
            table = character_table(group)
            told = normal_subgroups(table)
            self.assertTrue(all(is_normal(group, elements_of(group, indexes)) for indexes in told))
            self.assertIn(derived(table), told)
            self.assertIn(group_centre(table), told)
            self.assertEqual(len(linear(table)) * len(elements_of(group, derived(table))), 60)
        self.assertEqual(len(normal_subgroups(character_table(cyclic(60)))), 12)
        self.assertEqual(len(normal_subgroups(character_table(direct(cyclic(2), cyclic(30))))), 20)
        self.assertLess(time.monotonic() - start, 30)


if __name__ == "__main__":
    unittest.main()
