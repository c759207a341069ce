import time
import unittest

from classtable.classes import class_numbers, classes
from classtable.cyclo import Cyclo, added, of_integer, root
from classtable.errors import Malformed
from classtable.functions import ClassFunction, character, combined, everywhere, fixed_points
from classtable.group import cyclic, direct, from_permutations
from classtable.permutation import Permutation, identity
from classtable.table import character_table
from tests.samples import ALL_KINDS, GROUPS, at_all, drawn

ONE, ZERO = of_integer(1), of_integer(0)
SOME = {name: (GROUPS | ALL_KINDS)[name] for name in (
    "trivial", "two", "cyclic 5", "four-group", "symmetric3", "symmetric4", "alternating4", "quaternion", "dihedral5",
    "three by symmetric3", "symmetric4", "permutations of 4, 8, rotated", "alternating5")}
TABLES = {name: character_table(group) for name, group in SOME.items()}


def summed(values, n):
    return added(values).over(n)


class Functions(unittest.TestCase):
    def test_fields(self):
        group = GROUPS["symmetric3"]
        values = [ONE, root(5), ZERO]
        f = ClassFunction(group, values)
        self.assertEqual((f.group, f.row), (group, (ONE, root(5), ZERO)))
        self.assertIsInstance(f.row, tuple)
        values[0] = ZERO
        self.assertEqual(f.row, (ONE, root(5), ZERO))
        self.assertEqual(ClassFunction(group, (ONE, root(5), ZERO)), f)
        self.assertEqual(ClassFunction(group, (ONE, root(5), ZERO), known=classes(group)), f)
        self.assertEqual(ClassFunction(group, [ONE, root(5), ZERO], known=None), f)
        self.assertEqual(ClassFunction(group, f.row, known=classes(group))(2), root(5))

    def test_malformed(self):
        group = GROUPS["symmetric3"]
        for known in (None, classes(group)):
            for values in ((ONE, ONE), (ONE,) * 4, (), [], [ONE], (1, ONE, ONE), (ONE, ONE, 1), (ONE, None, ONE), (ONE, "1", ONE),
                           (ONE, True, ONE), (ONE, (ONE,), ONE), [ONE, ONE, [ONE]], ((ONE, ONE, ONE),), None, "111", ONE,
                           {0: ONE, 1: ONE, 2: ONE}):
                with self.assertRaises(Malformed, msg=repr(values)):
                    ClassFunction(group, values, known=known)

    def test_values(self):
        for group in SOME.values():
            f = drawn(group, 2)
            for x, i in enumerate(class_numbers(group)):
                self.assertEqual(f(x), f.row[i])
            self.assertEqual(f.degree(), f.row[0])
            self.assertEqual(f.degree(), f(0))

    def test_equality(self):
        group = GROUPS["quaternion"]
        f = drawn(group, 1)
        self.assertTrue(f == drawn(group.relabelled(tuple(range(8))), 1))
        self.assertFalse(f != drawn(group, 1))
        self.assertFalse(f == drawn(group, 2))
        self.assertFalse(f == ClassFunction(group, f.row[:-1] + (f.row[-1] + ONE,)))
        self.assertFalse(f == ClassFunction(GROUPS["dihedral4"], f.row))
        self.assertFalse(everywhere(cyclic(4), ONE) == everywhere(GROUPS["four-group"], ONE))
        for value in (None, 0, 1, True, "", (), f.row, list(f.row), group, ONE, identity(2), object(), (group, f.row)):
            self.assertFalse(f == value)
            self.assertFalse(value == f)
            self.assertTrue(f != value)


class Calculating(unittest.TestCase):
    def test_by_members(self):
        for group in SOME.values():
            f, g = drawn(group, 1), drawn(group, 3)
            one, two = at_all(f), at_all(g)
            c = root(8) + ONE
            for told, values in (
                    (f + g, [x + y for x, y in zip(one, two)]), (f - g, [x - y for x, y in zip(one, two)]),
                    (f * g, [x * y for x, y in zip(one, two)]), (-f, [-x for x in one]),
                    (f.scaled(c), [x * c for x in one]), (f.mirrored(), [x.mirrored() for x in one])):
                self.assertIsInstance(told, ClassFunction)
                self.assertEqual(told.group, group)
                self.assertIsInstance(told.row, tuple)
                self.assertEqual(at_all(told), values)
            self.assertEqual((f.row, g.row), (drawn(group, 1).row, drawn(group, 3).row))

    def test_a_calculated_function_can_be_used_again(self):
        group = GROUPS["symmetric4"]
        f = (drawn(group, 1) + drawn(group, 2)) * -drawn(group, 3)
        for x in range(24):
            self.assertEqual(f(x), at_all(f)[x])
        self.assertEqual(f.raised(2).mirrored().scaled(ONE) - f.raised(2).mirrored(), everywhere(group, ZERO))

    def test_unequal_groups(self):
        group = cyclic(4)
        f = everywhere(group, ONE)
        for other in (everywhere(GROUPS["four-group"], ONE), everywhere(cyclic(3), ONE),
                      everywhere(group.relabelled((0, 2, 1, 3)), ONE)):
            for wrong in (lambda: f + other, lambda: f - other, lambda: f * other, lambda: other + f, lambda: f.inner(other),
                          lambda: f.multiples(character_table(other.group)),
                          lambda: f.is_sum_of_characters(character_table(other.group))):
                self.assertRaises(Malformed, wrong)

    def test_unequal_groups_come_first(self):
        f = ClassFunction(cyclic(4), [ONE, root(4999), root(5), ONE])
        self.assertRaises(Malformed, f.is_sum_of_characters, character_table(GROUPS["four-group"]))
        self.assertIs(f.is_sum_of_characters(character_table(cyclic(4))), False)

    def test_equal_groups_that_are_not_the_same_object(self):
        f, g = everywhere(cyclic(4), ONE), everywhere(direct(cyclic(4), cyclic(1)), root(3))
        self.assertEqual((f + g).row, (ONE + root(3),) * 4)
        self.assertEqual(f.inner(g), root(3, 2))

    def test_other_operands(self):
        f = everywhere(cyclic(2), ONE)
        for value in (ONE, 1, None, (ONE, ONE)):
            for wrong in (lambda: f + value, lambda: f - value, lambda: f * value, lambda: value + f):
                self.assertRaises(TypeError, wrong)

    def test_power_functions(self):
        for group in SOME.values():
            f = drawn(group, 1)
            values = at_all(f)
            for k in (0, 1, 2, 3, 4, 5, 6, 7, -1, -2, -5, 10 ** 30 + 1, -(10 ** 30)):
                self.assertEqual(at_all(f.raised(k)), [values[group.power(x, k)] for x in range(len(group))])
            self.assertEqual(f.raised(0), everywhere(group, f.degree()))
            self.assertEqual(f.raised(1), f)
            self.assertEqual(f.raised(group.exponent() * 10 ** 20 - 1), f.raised(-1))

    def test_inner(self):
        for group in SOME.values():
            f, g = drawn(group, 1), drawn(group, 3)
            told = summed([x * y.mirrored() for x, y in zip(at_all(f), at_all(g))], len(group))
            self.assertEqual(f.inner(g), told)
            self.assertEqual(g.inner(f), told.mirrored())

    def test_inner_of_characters(self):
        for table in TABLES.values():
            found = [character(table, k) for k in range(len(table))]
            for j, f in enumerate(found):
                for k, g in enumerate(found):
                    self.assertEqual(f.inner(g), ONE if j == k else ZERO)


class Parts(unittest.TestCase):
    def test_sums_of_characters(self):
        for table in TABLES.values():
            told = [of_integer((3 * k + 2) % 5) for k in range(len(table))]
            f = combined(table, told)
            total = everywhere(table.group, ZERO)
            for k, m in enumerate(told):
                total = total + character(table, k).scaled(m)
            self.assertEqual(f, total)
            self.assertEqual(f.multiples(table), tuple(told))
            self.assertIs(f.is_sum_of_characters(table), True)

    def test_other_class_functions(self):
        for table in TABLES.values():
            f = drawn(table.group, 2)
            told = f.multiples(table)
            self.assertIsInstance(told, tuple)
            self.assertEqual(len(told), len(table))
            self.assertEqual(combined(table, told), f)
            self.assertEqual(combined(table, list(told)), f)
            for k, m in enumerate(told):
                self.assertEqual(m, f.inner(character(table, k)))

    def test_multiples_of_all_sorts(self):
        table = TABLES["alternating4"]
        told = (root(5), Cyclo(1, (-7,), 3), ZERO, root(8, 3).scaled(10 ** 20))
        self.assertEqual(combined(table, told).multiples(table), told)

    def test_wrong_number_of_multiples(self):
        for table in TABLES.values():
            many = len(table)
            for multiples in ((ONE,) * (many - 1), (ONE,) * (many + 1), [ONE] * (many + 1), [ONE] * (2 * many)):
                self.assertRaises(Malformed, combined, table, multiples)
        self.assertRaises(Malformed, combined, TABLES["two"], ())
        self.assertRaises(Malformed, combined, TABLES["two"], [])

    def test_no_sums_of_characters(self):
        for table in TABLES.values():
            many = len(table)
            self.assertIs(everywhere(table.group, ZERO).is_sum_of_characters(table), False)
            for k in range(many):
                f = character(table, k)
                self.assertIs(f.is_sum_of_characters(table), True)
                for c in (-ONE, Cyclo(1, (1,), 2), Cyclo(1, (-1,), 2), root(4), root(5), root(3) + ONE):
                    self.assertIs(f.scaled(c).is_sum_of_characters(table), False)
                    multiples = [of_integer(2)] * many
                    multiples[k] = c
                    self.assertIs(combined(table, multiples).is_sum_of_characters(table), False)
                multiples = [ZERO] * many
                multiples[k] = of_integer(10 ** 20)
                self.assertIs(combined(table, multiples).is_sum_of_characters(table), True)

    def test_values_without_inner_products_within_reach(self):
        table = character_table(cyclic(7))
        f = ClassFunction(cyclic(7), [ONE] + [root(4999)] * 6)
        self.assertIs(f.is_sum_of_characters(table), False)
        self.assertRaises(Malformed, f.multiples, table)

    def test_squares(self):
        for table in TABLES.values():
            many = len(table)
            sums = [character(table, k) for k in range(many)]
            sums.append(combined(table, [of_integer(k % 3) for k in range(1, many + 1)]))
            for f in sums:
                symmetric, exterior = f.symmetric_square(), f.exterior_square()
                self.assertEqual(symmetric + exterior, f * f)
                self.assertEqual(symmetric - exterior, f.raised(2))
                two = of_integer(2)
                values = at_all(f)
                for x in range(len(table.group)):
                    square = values[table.group.product(x, x)]
                    self.assertEqual(symmetric(x) * two, values[x] * values[x] + square)
                    self.assertEqual(exterior(x) * two, values[x] * values[x] - square)
                for g in (symmetric, exterior, f * f, f * sums[0], f * sums[-1]):
                    self.assertIs(g.is_sum_of_characters(table), g != everywhere(table.group, ZERO))
                d = f.degree().whole()
                self.assertEqual(symmetric.degree().whole(), d * (d + 1) // 2)
                self.assertEqual(exterior.degree().whole(), d * (d - 1) // 2)

    def test_indicators(self):
        for name, table in TABLES.items():
            group = table.group
            for k in range(len(table)):
                f = character(table, k)
                told = f.indicator()
                self.assertIsInstance(told, Cyclo)
                self.assertIn(told.whole(), (-1, 0, 1), name)
                values = at_all(f)
                self.assertEqual(told, summed([values[group.product(x, x)] for x in range(len(group))], len(group)))
                # A character that is not its own conjugate has the indicator 0, and only such a one.
                self.assertEqual(told.is_zero(), f != f.mirrored(), name)

    def test_some_indicators(self):
        def told(name):
            table = TABLES[name]
            return [character(table, k).indicator().whole() for k in range(len(table))]

        self.assertEqual(told("quaternion"), [1, 1, 1, 1, -1])
        self.assertEqual(told("alternating4"), [1, 0, 0, 1])
        self.assertEqual(told("cyclic 5"), [1, 0, 0, 0, 0])
        self.assertEqual(told("alternating5"), [1] * 5)
        self.assertEqual(drawn(cyclic(1), 2).indicator(), drawn(cyclic(1), 2).degree())
        self.assertEqual(everywhere(cyclic(6), root(7)).indicator(), root(7))


class Making(unittest.TestCase):
    def test_everywhere(self):
        for group in SOME.values():
            f = everywhere(group, root(5))
            self.assertIsInstance(f, ClassFunction)
            self.assertEqual(f.row, (root(5),) * len(classes(group)))
            self.assertEqual(f.group, group)

    def test_character(self):
        for table in TABLES.values():
            for k, row in enumerate(table.rows):
                f = character(table, k)
                self.assertEqual((f.row, f.group), (row, table.group))
                self.assertEqual(f, ClassFunction(table.group, list(row)))

    def test_fixed_points(self):
        for generators in (((1, 0, 2), (1, 2, 0)), ((1, 2, 0, 3), (0, 2, 1, 3)), ((1, 2, 3, 0), (1, 0, 2, 3)), ((0,),),
                           ((1, 2, 3, 4, 0), (1, 2, 0, 3, 4)), ((1, 0, 3, 2, 4, 5, 6, 7),), ((1, 2, 3, 4, 5, 0),)):
            group, permutations = from_permutations(tuple(Permutation(images) for images in generators))
            f = fixed_points(group, permutations)
            self.assertIsInstance(f, ClassFunction)
            self.assertEqual(f.group, group)
            for x, permutation in enumerate(permutations):
                self.assertEqual(f(x).whole(), sum(permutation(k) == k for k in range(len(generators[0]))))
            table = character_table(group)
            self.assertIs(f.is_sum_of_characters(table), True)
            # The multiple of the trivial character is the number of the sets of points that go to one another.
            orbits = {frozenset(permutation(k) for permutation in permutations) for k in range(len(generators[0]))}
            self.assertEqual(f.multiples(table)[0].whole(), len(orbits))

    def test_order_60(self):
        start = time.monotonic()
        for group in (GROUPS["alternating5"], cyclic(60)):
            table = character_table(group)
            multiples = tuple(of_integer(k % 7) for k in range(len(table)))
            f = combined(table, multiples)
            self.assertEqual(f.multiples(table), multiples)
            self.assertIs(f.symmetric_square().is_sum_of_characters(table), True)
        self.assertLess(time.monotonic() - start, 30)


if __name__ == "__main__":
    unittest.main()
