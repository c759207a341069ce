import time
import unittest

from classtable.classes import class_numbers, classes, quotient
from classtable.group import cyclic, direct
from classtable.lattice import (
    chief_factors, chief_row, is_abelian, is_simple, is_soluble, join, meet, quotient_characters)
from classtable.normal import elements_of, kernel, normal_subgroups
from classtable.table import character_table
from tests.samples import GROUPS, PARTED, closed

GROUPS_HERE = {**PARTED, "symmetric4": GROUPS["symmetric4"], "three by symmetric3": GROUPS["three by symmetric3"]}
TABLES = {name: character_table(group) for name, group in GROUPS_HERE.items()}
NORMAL = {name: normal_subgroups(table) for name, table in TABLES.items()}


def order_of(group, indexes):
    return len(elements_of(group, indexes))


def is_power_of_a_prime(n):
    p = next(k for k in range(2, n + 1) if n % k == 0)
    while n % p == 0:
        n //= p
    return n == 1


def derived_length_ends(group):
    """True if derived subgroups, each one of the one before, come down to the unit."""
    part = tuple(range(len(group)))
    while True:
        back = group.inverse
        commutators = {group.product(group.product(back(x), back(y)), group.product(x, y)) for x in part for y in part}
        smaller = closed(group, sorted(commutators))
        if smaller == part:
            return part == (0,)
        part = smaller


class JoinAndMeet(unittest.TestCase):
    def test_all_pairs(self):
        for name, table in TABLES.items():
            group = table.group
            numbers = class_numbers(group)
            for one in NORMAL[name]:
                for two in NORMAL[name]:
                    told, common = join(table, one, two), meet(one, two)
                    products = {group.product(x, y) for x in elements_of(group, one) for y in elements_of(group, two)}
                    self.assertEqual(told, tuple(sorted({numbers[x] for x in products})), name)
                    self.assertEqual(elements_of(group, told), tuple(sorted(products)))
                    self.assertEqual(common, tuple(i for i in range(len(table)) if i in one and i in two))
                    self.assertIn(told, NORMAL[name])
                    self.assertIn(common, NORMAL[name])
                    self.assertEqual(
                        order_of(group, told) * order_of(group, common), order_of(group, one) * order_of(group, two))
                    # The join is the least one that includes both.
                    self.assertEqual(told, next(n for n in NORMAL[name] if set(one) | set(two) <= set(n)))

    def test_some(self):
        table = TABLES["pairs 2 2"]
        self.assertEqual((join(table, (0, 1), (0, 2)), meet((0, 1), (0, 2))), ((0, 1, 2, 3), (0,)))
        self.assertEqual((join(table, (0,), (0, 2)), meet((0,), (0, 2))), ((0, 2), (0,)))
        self.assertEqual((join(table, (0,), (0,)), meet((0,), (0,))), ((0,), (0,)))


class QuotientCharacters(unittest.TestCase):
    def test_all(self):
        for name, table in TABLES.items():
            group = table.group
            numbers = class_numbers(group)
            for normal in NORMAL[name]:
                told = quotient_characters(table, normal)
                self.assertIsInstance(told, tuple)
                self.assertEqual(list(told), [k for k in range(len(table)) if set(normal) <= set(kernel(table, k))])
                smaller, cosets = quotient(group, elements_of(group, normal))
                self.assertEqual(len(told), len(classes(smaller)))
                found = []
                for k in told:
                    pairs = {(coset, table.rows[k][numbers[x]].key()) for x, coset in enumerate(cosets)}
                    self.assertEqual(len(pairs), len(smaller))
                    found.append([key for _, key in sorted(pairs)])
                below = class_numbers(smaller)
                rows = [[row[i].key() for i in below] for row in character_table(smaller)]
                self.assertEqual(sorted(found), sorted(rows), name)

    def test_the_unit_and_the_whole_group(self):
        for name, table in TABLES.items():
            self.assertEqual(quotient_characters(table, (0,)), tuple(range(len(table))))
            self.assertEqual(quotient_characters(table, tuple(range(len(table)))), (0,))


class ChiefRows(unittest.TestCase):
    def test_the_first_one_behind_each(self):
        for name, table in TABLES.items():
            told = chief_row(table)
            self.assertIsInstance(told, tuple)
            self.assertEqual((told[0], told[-1]), ((0,), tuple(range(len(table)))))
            for one, two in zip(told, told[1:]):
                above = [n for n in NORMAL[name] if set(one) < set(n)]
                nearest = [n for n in above if not any(set(m) < set(n) for m in above)]
                self.assertEqual(two, nearest[0], name)

    def test_factors(self):
        for name, table in TABLES.items():
            told = chief_factors(table)
            self.assertIsInstance(told, tuple)
            orders = [order_of(table.group, n) for n in chief_row(table)]
            self.assertEqual(list(told), [two // one for one, two in zip(orders, orders[1:])])
            product = 1
            for factor in told:
                self.assertGreater(factor, 1)
                product *= factor
            self.assertEqual(product, len(table.group), name)

    def test_some(self):
        self.assertEqual(chief_factors(character_table(cyclic(6))), (2, 3))
        self.assertEqual(chief_row(TABLES["cyclic 1"]), ((0,),))
        self.assertEqual(chief_factors(TABLES["cyclic 1"]), ())
        self.assertEqual(chief_factors(TABLES["symmetric4"]), (4, 3, 2))
        self.assertEqual(chief_factors(TABLES["alternating4"]), (4, 3))
        self.assertEqual(chief_factors(TABLES["alternating5"]), (60,))
        self.assertEqual(chief_row(TABLES["pairs 2 2"]), ((0,), (0, 1), (0, 1, 2, 3)))
        self.assertEqual(chief_factors(TABLES["quaternion"]), (2, 2, 2))


class Kinds(unittest.TestCase):
    def test_soluble(self):
        for name, table in TABLES.items():
            told = is_soluble(table)
            self.assertIs(told, all(is_power_of_a_prime(factor) for factor in chief_factors(table)), name)
            self.assertIs(told, derived_length_ends(table.group), name)
        self.assertIs(is_soluble(TABLES["alternating5"]), False)
        self.assertIs(is_soluble(TABLES["symmetric4"]), True)
        self.assertIs(is_soluble(TABLES["cyclic 1"]), True)

    def test_simple(self):
        for name, table in TABLES.items():
            self.assertIs(is_simple(table), len(NORMAL[name]) == 2, name)
        self.assertIs(is_simple(TABLES["cyclic 1"]), False)
        self.assertIs(is_simple(TABLES["cyclic 7"]), True)
        self.assertIs(is_simple(TABLES["alternating5"]), True)
        self.assertIs(is_simple(TABLES["alternating4"]), False)

    def test_abelian(self):
        for name, table in TABLES.items():
            many = range(len(table.group))
            product = table.group.product
            self.assertIs(is_abelian(table), all(product(x, y) == product(y, x) for x in many for y in many), name)
        self.assertIs(is_abelian(TABLES["cyclic 1"]), True)
        self.assertIs(is_abelian(TABLES["quaternion"]), False)

    def test_order_60(self):
        start = time.monotonic()
        for group, factors in ((GROUPS["alternating5"], (60,)), (cyclic(60), (2, 2, 3, 5)),
                               (direct(cyclic(2), cyclic(30)), (2, 2, 3, 5)), (cyclic(59), (59,)),
                               (direct(cyclic(5), GROUPS["dihedral6"]), (2, 3, 2, 5))):
            table = character_table(group)
            self.assertEqual(chief_factors(table), factors)
            self.assertIs(is_soluble(table), 60 not in factors)
            self.assertIs(is_simple(table), len(factors) == 1)
            self.assertIs(is_abelian(table), group.is_abelian())
            found = normal_subgroups(table)
            for one in found:
                for two in found[::4]:
                    told = join(table, one, two)
                    self.assertEqual(
                        order_of(group, told) * order_of(group, meet(one, two)), order_of(group, one) * order_of(group, two))
                self.assertEqual(len(quotient_characters(table, one)), len(classes(quotient(group, elements_of(group, one))[0])))
        self.assertLess(time.monotonic() - start, 30)


if __name__ == "__main__":
    unittest.main()
