import unittest

from classtable.errors import Malformed, Refused
from classtable.group import Group, cyclic, direct, from_permutations
from classtable.permutation import Permutation, identity
from tests.samples import GROUPS, TABLES, cyclic_table, pairs_table, symmetric_table


def refused(case, reason, act):
    with case.assertRaises(Refused) as caught:
        act()
    case.assertEqual(caught.exception.reason, reason)


# A table of five members with a unit and inverses, each member once in each row and column, that is no group.
LOOP = ((0, 1, 2, 3, 4), (1, 0, 3, 4, 2), (2, 4, 0, 1, 3), (3, 2, 4, 0, 1), (4, 3, 1, 2, 0))


class Making(unittest.TestCase):
    def test_tables_of_groups(self):
        for name, table in TABLES.items():
            group = Group(table)
            self.assertEqual(group.table, tuple(tuple(row) for row in table), name)
            self.assertEqual(len(group), len(table))

    def test_lists_and_tuples(self):
        rows = [[0, 1, 2], (1, 2, 0), [2, 0, 1]]
        for table in (rows, tuple(rows), [list(row) for row in rows], tuple(tuple(row) for row in rows)):
            group = Group(table)
            self.assertEqual(group.table, ((0, 1, 2), (1, 2, 0), (2, 0, 1)))
            self.assertTrue(all(type(row) is tuple for row in group.table))
        self.assertEqual(rows, [[0, 1, 2], (1, 2, 0), [2, 0, 1]])

    def test_objects_do_not_follow_their_arguments(self):
        rows = [[0, 1], [1, 0]]
        group = Group(rows)
        rows[1][0] = 0
        rows.append([0, 1])
        self.assertEqual(group.table, ((0, 1), (1, 0)))

    def malformed(self, table):
        with self.assertRaises(Malformed, msg=repr(table)):
            Group(table)

    def test_rows(self):
        self.malformed(())
        self.malformed([])
        self.malformed(((),))
        self.malformed(((0, 1), (1,)))
        self.malformed(((0, 1), (1, 0, 0)))
        self.malformed(((0, 1),))
        self.malformed(((0, 1), (1, 0), (0, 1)))
        self.malformed(((0, 1), None))
        self.malformed(((0, 1), 1))
        self.malformed(((0, 1), "10"))
        self.malformed(((0, 1), {1: 1, 0: 0}))

    def test_items(self):
        self.malformed(((0, 1), (1, 2)))
        self.malformed(((0, 1), (1, -1)))
        self.malformed(((0, 1), (True, 0)))
        self.malformed(((0, True), (1, 0)))
        self.malformed(((0, 1), (1, False)))
        self.malformed(((False,),))
        self.malformed(((None,),))
        self.malformed((("0",),))
        self.malformed(((0, 1), (1, None)))
        self.malformed(((0, 1), (1, (0,))))
        self.malformed(((0, 1, 2), (1, 2, 0), (2, 0, 3)))

    def test_unit(self):
        # In each of these another member is the unit, or only one side holds.
        self.malformed(((1, 0), (0, 1)))
        self.malformed(((0, 1, 2), (2, 0, 1), (1, 2, 0)))
        self.malformed(((0, 2, 1), (1, 0, 2), (2, 1, 0)))
        self.malformed(((1,),))
        # associative, with 0 in each row, and 0 is the unit on one side
        self.malformed(((0, 1), (0, 1)))
        self.malformed(((0, 0), (1, 1)))
        self.malformed(((0, 1, 2),) * 3)
        for x in range(1, 6):
            table = cyclic_table(6)
            table[0][x] = 0
            self.malformed(table)
            table = cyclic_table(6)
            table[x][0] = 0
            self.malformed(table)

    def test_inverses(self):
        # The numbers modulo 2 and the maximum: associative and with a unit, but nothing leads back.
        self.malformed(((0, 1), (1, 1)))
        self.malformed(((0, 1, 2), (1, 1, 2), (2, 2, 2)))
        self.malformed(((0, 1, 2), (1, 0, 2), (2, 2, 2)))

    def test_associativity(self):
        self.malformed(LOOP)
        for name in ("six", "quaternion", "alternating4"):
            table = [list(row) for row in TABLES[name]]
            many = len(table)
            for x in range(1, many):
                for y in range(1, many - 1):
                    spoilt = [list(row) for row in table]
                    spoilt[x][y], spoilt[x][y + 1] = spoilt[x][y + 1], spoilt[x][y]
                    self.malformed(spoilt)

    def test_no_tables(self):
        for value in (None, True, False, 0, 1, "", "0", "01", {}, {0: (0,)}, object(), cyclic(2), identity(2)):
            self.malformed(value)

    def test_sixty_one_rows(self):
        refused(self, "order", lambda: Group(cyclic_table(61)))
        refused(self, "order", lambda: Group([[0]] * 61))
        refused(self, "order", lambda: Group((None,) * 100))
        self.assertEqual(len(Group(cyclic_table(60))), 60)


class Equality(unittest.TestCase):
    def test_groups(self):
        for name, group in GROUPS.items():
            for other, table in TABLES.items():
                self.assertIs(group == Group(table), name == other)
                self.assertIs(group != Group(table), name != other)

    def test_other_values(self):
        group = Group(((0, 1), (1, 0)))
        for value in (((0, 1), (1, 0)), [[0, 1], [1, 0]], None, 2, True, "", identity(2), object()):
            self.assertIs(group == value, False)
            self.assertIs(value == group, False)


class Members(unittest.TestCase):
    def test_products(self):
        for name, group in GROUPS.items():
            table = TABLES[name]
            for x in range(len(table)):
                for y in range(len(table)):
                    self.assertEqual(group.product(x, y), table[x][y])

    def test_inverses(self):
        for group in GROUPS.values():
            for x in range(len(group)):
                self.assertEqual(group.product(x, group.inverse(x)), 0)
                self.assertEqual(group.product(group.inverse(x), x), 0)

    def test_powers_and_orders(self):
        for group in GROUPS.values():
            for x in range(len(group)):
                value, order = 0, None
                for k in range(1, len(group) + 1):
                    self.assertEqual(group.power(x, k - 1), value)
                    self.assertEqual(group.power(x, 1 - k), group.inverse(value))
                    value = group.product(value, x)
                    if value == 0 and order is None:
                        order = k
                self.assertEqual(group.order_of(x), order)

    def test_great_exponents(self):
        group = GROUPS["symmetric4"]
        for x in range(24):
            for k in (10 ** 30, 10 ** 30 + 1, -(10 ** 30) - 7, 3 ** 5000):
                self.assertEqual(group.power(x, k), group.power(x, k % 12))
        self.assertEqual(GROUPS["trivial"].power(0, -(10 ** 30)), 0)

    def test_exponent(self):
        for group in GROUPS.values():
            e = 1
            while any(group.power(x, e) != 0 for x in range(len(group))):
                e += 1
            self.assertEqual(group.exponent(), e)
        self.assertEqual(GROUPS["symmetric4"].exponent(), 12)
        self.assertEqual(GROUPS["alternating5"].exponent(), 30)
        self.assertEqual(GROUPS["trivial"].exponent(), 1)

    def test_conjugated(self):
        for group in GROUPS.values():
            for x in range(len(group)):
                for g in range(len(group)):
                    y = group.conjugated(x, g)
                    self.assertEqual(group.product(g, y), group.product(x, g))

    def test_is_abelian(self):
        for name, group in GROUPS.items():
            self.assertIs(group.is_abelian(), name in ("trivial", "two", "six", "seven", "four-group", "mixed"), name)


class Relabelled(unittest.TestCase):
    def test_relabelled(self):
        for group in GROUPS.values():
            many = len(group)
            images = (0,) + tuple(range(2, many)) + (1,) * (many > 1)
            other = group.relabelled(images)
            for x in range(many):
                for y in range(many):
                    self.assertEqual(other.product(images[x], images[y]), images[group.product(x, y)])
        self.assertEqual(cyclic(4).relabelled((0, 1, 2, 3)), cyclic(4))
        self.assertEqual(cyclic(4).relabelled((0, 3, 2, 1)), cyclic(4))
        self.assertEqual(cyclic(3).table, ((0, 1, 2), (1, 2, 0), (2, 0, 1)))

    def test_refused(self):
        for bad in ((), (0,), (0, 1), (0, 1, 2, 3), (1, 0, 2), (0, 1, 1), (0, 1, 3), (0, -1, 2), (0, True, 2), (False, 1, 2),
                    (0, None, 2), (0, "1", 2), [0, 2, 1], None, 3, True, "012", cyclic(3)):
            with self.assertRaises(Malformed, msg=repr(bad)):
                cyclic(3).relabelled(bad)


class Constructions(unittest.TestCase):
    def test_cyclic(self):
        for n in range(1, 61):
            self.assertEqual(cyclic(n).table, tuple(tuple(row) for row in cyclic_table(n)))
        self.assertEqual(cyclic(1).table, ((0,),))
        for n in (0, -1, 61, 10 ** 9):
            refused(self, "order", lambda: cyclic(n))

    def test_direct(self):
        for one in ("trivial", "two", "six", "symmetric3"):
            for two in ("trivial", "four-group", "quaternion", "symmetric3"):
                told = pairs_table(TABLES[one], TABLES[two])
                self.assertEqual(direct(GROUPS[one], GROUPS[two]).table, tuple(tuple(row) for row in told))
        self.assertEqual(direct(cyclic(2), cyclic(3)).product(5, 4), 0)

    def test_direct_refused(self):
        self.assertEqual(len(direct(cyclic(6), cyclic(10))), 60)
        refused(self, "order", lambda: direct(cyclic(31), cyclic(2)))
        refused(self, "order", lambda: direct(cyclic(8), cyclic(8)))
        refused(self, "order", lambda: direct(cyclic(60), cyclic(60)))
        self.assertEqual(len(direct(cyclic(60), cyclic(1))), 60)


class FromPermutations(unittest.TestCase):
    def test_numbering(self):
        generators = (Permutation((1, 2, 3, 0)), Permutation((1, 0, 2, 3)))
        group, permutations = from_permutations(generators)
        self.assertEqual(len(group), 24)
        self.assertIsInstance(permutations, tuple)
        self.assertEqual([p.images for p in permutations], sorted(p.images for p in permutations))
        self.assertEqual(permutations[0], identity(4))
        for x in range(24):
            for y in range(24):
                self.assertEqual(permutations[group.product(x, y)], permutations[x] * permutations[y])
        self.assertEqual(group.table, tuple(tuple(row) for row in symmetric_table(4)))
        self.assertEqual(generators[0].images, (1, 2, 3, 0))

    def test_all_products(self):
        turn = Permutation((1, 2, 3, 4, 0))
        group, permutations = from_permutations((turn,))
        self.assertEqual(len(group), 5)
        self.assertEqual({p.images for p in permutations}, {tuple((k + j) % 5 for k in range(5)) for j in range(5)})
        group, permutations = from_permutations((turn, Permutation((0, 4, 3, 2, 1))))
        self.assertEqual(len(group), 10)
        group, permutations = from_permutations((turn, Permutation((1, 2, 0, 3, 4))))
        self.assertEqual(len(group), 60)

    def test_identity_alone(self):
        for m in (1, 12):
            group, permutations = from_permutations((identity(m),))
            self.assertEqual(group, cyclic(1))
            self.assertEqual(permutations, (identity(m),))
        group, permutations = from_permutations((identity(3), identity(3)))
        self.assertEqual(permutations, (identity(3),))

    def test_malformed(self):
        five = (Permutation((1, 2, 3, 4, 0)), Permutation((1, 0, 2, 3, 4)))
        for bad in ((), (identity(2), identity(3)), (identity(3), identity(3), identity(4)), five + (identity(6),)):
            with self.assertRaises(Malformed):
                from_permutations(bad)

    def test_more_than_sixty(self):
        refused(self, "order", lambda: from_permutations((Permutation((1, 2, 3, 4, 0)), Permutation((1, 0, 2, 3, 4)))))
        turn = Permutation((1, 2, 3, 4, 5, 6, 7, 8, 9, 10, 11, 0))
        refused(self, "order", lambda: from_permutations((turn, Permutation((1, 0) + tuple(range(2, 12))))))
        # 60 as the order of one permutation of three, four and five points is reached.
        group, _ = from_permutations((Permutation((1, 2, 0, 4, 5, 6, 3, 8, 9, 10, 11, 7)),))
        self.assertEqual(len(group), 60)
        self.assertTrue(group.is_abelian())


if __name__ == "__main__":
    unittest.main()
