import time
import unittest

from classtable.classes import class_numbers, classes, inverse_classes
from classtable.cyclo import Cyclo, added, of_integer, root
from classtable.group import cyclic, direct
from classtable.lifting import characters
from classtable.table import CharacterTable, character_table, is_central_row
from tests.samples import ALL_KINDS, GROUPS, KINDS

ONE = of_integer(1)
TESTED = list(ALL_KINDS.items()) + [("alternating5", GROUPS["alternating5"]), ("dihedral6", GROUPS["dihedral6"])]
TABLES = {name: character_table(group) for name, group in TESTED}


def as_functions(table):
    """The set of the rows as tuples of the texts of the values at all members."""
    numbers = class_numbers(table.group)
    return {tuple(str(row[i]) for i in numbers) for row in table.rows}


class Tables(unittest.TestCase):
    def test_rows(self):
        for name, table in TABLES.items():
            many = len(classes(table.group))
            self.assertIsInstance(table, CharacterTable)
            self.assertEqual(table.group, dict(TESTED)[name])
            self.assertIsInstance(table.rows, tuple)
            self.assertEqual(len(table.rows), many, name)
            for row in table.rows:
                self.assertIsInstance(row, tuple)
                self.assertEqual(len(row), many)
                self.assertTrue(all(isinstance(x, Cyclo) for x in row))

    def test_the_rows_are_the_characters(self):
        for name, table in TABLES.items():
            rows = [[x.key() for x in row] for row in table.rows]
            told = [[x.key() for x in values] for _, values in characters(table.group)]
            self.assertEqual(sorted(rows), sorted(told), name)

    def test_order_of_the_rows(self):
        for name, table in TABLES.items():
            self.assertTrue(all(x == ONE for x in table.rows[0]), name)
            keys = [(row[0].whole(), tuple(x.key() for x in row)) for row in table.rows[1:]]
            self.assertEqual(keys, sorted(keys), name)

    def test_some(self):
        told = {
            "symmetric4": ["1 1 1 1 1", "1 1 -1 1 -1", "2 2 0 -1 0", "3 -1 -1 0 1", "3 -1 1 0 -1"],
            "alternating4": ["1 1 1 1", "1 1 E3:-1,-1 E3:0,1", "1 1 E3:0,1 E3:-1,-1", "3 -1 0 0"],
            "alternating5": ["1 1 1 1 1", "3 -1 0 E5:0,0,-1,-1 E5:1,0,1,1", "3 -1 0 E5:1,0,1,1 E5:0,0,-1,-1",
                             "4 0 1 -1 -1", "5 1 -1 0 0"],
            "quaternion": ["1 1 1 1 1", "1 1 -1 -1 1", "1 1 -1 1 -1", "1 1 1 -1 -1", "2 -2 0 0 0"],
            "trivial": ["1"], "two": ["1 1", "1 -1"],
        }
        for name, rows in told.items():
            self.assertEqual([" ".join(str(x) for x in row) for row in character_table(GROUPS[name])], rows, name)

    def test_sums_over_the_classes(self):
        for name, table in TABLES.items():
            found, opposites = classes(table.group), inverse_classes(table.group)
            for x in table.rows[-5:]:
                for y in table.rows:
                    parts = [(x[i] * y[opposites[i]]).scaled(len(members)) for i, members in enumerate(found)]
                    self.assertEqual(added(parts), of_integer(len(table.group) if x == y else 0), name)

    def test_sums_over_the_characters(self):
        for name, table in TABLES.items():
            found, opposites = classes(table.group), inverse_classes(table.group)
            many = range(len(found))
            for i in list(many)[:5]:
                for j in many:
                    total = added([row[i] * row[opposites[j]] for row in table.rows])
                    self.assertEqual(total, of_integer(len(table.group) // len(found[i]) if i == j else 0), name)

    def test_degrees(self):
        for name, table in TABLES.items():
            degrees = table.degrees()
            self.assertIsInstance(degrees, tuple)
            self.assertEqual([of_integer(d) for d in degrees], [row[0] for row in table.rows])
            self.assertTrue(all(isinstance(d, int) and len(table.group) % d == 0 for d in degrees), name)
            self.assertEqual(sum(d * d for d in degrees), len(table.group))
        self.assertEqual(TABLES["alternating5"].degrees(), (1, 3, 3, 4, 5))

    def test_length_and_iterating(self):
        for table in TABLES.values():
            self.assertEqual(len(table), len(table.rows))
            self.assertEqual(tuple(table), table.rows)
            self.assertEqual(list(zip(table, table)), list(zip(table.rows, table.rows)))

    def test_equality(self):
        for name in ("quaternion", "alternating5", "cyclic 5"):
            table = TABLES[name]
            group, rows = table.group, table.rows
            self.assertTrue(table == character_table(group.relabelled(tuple(range(len(group))))))
            self.assertFalse(table != CharacterTable(group, rows))
            for other in (CharacterTable(group, rows[:-1]), CharacterTable(group, rows + rows[:1]),
                          CharacterTable(group, rows[1:] + rows[:1]), CharacterTable(group, ()),
                          CharacterTable(group, rows[:-1] + (rows[-1][:-1] + (ONE.scaled(7),),))):
                self.assertTrue(table != other)
                self.assertFalse(table == other)
            for value in (None, 0, 1, True, "table", (), [], rows, list(rows), group, ONE, (group, rows), object()):
                self.assertFalse(table == value)
                self.assertFalse(value == table)

    def test_equal_rows_of_another_group(self):
        # These two groups have classes of the same sizes in the same order, and even the same values.
        one, two = character_table(GROUPS["quaternion"]), character_table(GROUPS["dihedral4"])
        self.assertFalse(one == two)
        self.assertFalse(one == CharacterTable(two.group, one.rows))
        self.assertFalse(character_table(cyclic(4)) == character_table(GROUPS["four-group"]))

    def test_nothing_is_looked_at(self):
        table = CharacterTable(cyclic(2), ((ONE,),))
        self.assertEqual((table.group, table.rows, len(table)), (cyclic(2), ((ONE,),), 1))

    def test_value(self):
        for name, table in TABLES.items():
            numbers = class_numbers(table.group)
            for k in (0, len(table) // 2, len(table) - 1):
                for x in range(len(table.group)):
                    self.assertEqual(table.value(k, x), table.rows[k][numbers[x]], name)

    def test_central(self):
        for name, table in TABLES.items():
            for k, row in enumerate(table.rows):
                told = table.central(k)
                self.assertIsInstance(told, tuple)
                for w, x, members in zip(told, row, classes(table.group)):
                    self.assertEqual(w * row[0], x.scaled(len(members)), name)
            self.assertEqual([w.whole() for w in table.central(0)], [len(members) for members in classes(table.group)])

    def test_tables_of_products(self):
        for one, two in ((cyclic(2), cyclic(4)), (cyclic(3), GROUPS["symmetric3"]), (GROUPS["quaternion"], cyclic(3)),
                         (GROUPS["symmetric3"], GROUPS["symmetric3"])):
            a, b = character_table(one), character_table(two)
            table = character_table(direct(one, two))
            self.assertEqual(len(table), len(a) * len(b))
            m = len(two)
            told = {tuple(str(a.value(j, s // m) * b.value(k, s % m)) for s in range(len(one) * m))
                    for j in range(len(a)) for k in range(len(b))}
            self.assertEqual(as_functions(table), told)

    def test_numbered_otherwise(self):
        for name, group in KINDS.items():
            many = len(group)
            other = TABLES[name + ", reversed"]
            images = (0,) + tuple(range(many - 1, 0, -1))
            # The value at x has moved to the number images[x].
            self.assertEqual({tuple(row[images[x]] for x in range(many)) for row in as_functions(other)},
                             as_functions(TABLES[name]), name)

    def test_order_60(self):
        start = time.monotonic()
        for group in (GROUPS["alternating5"], cyclic(60), direct(cyclic(30), cyclic(2))):
            self.assertEqual(len(character_table(group)), len(classes(group)))
        self.assertLess(time.monotonic() - start, 20)


class CentralRows(unittest.TestCase):
    def central(self, row):
        """What point 5.1 says of the row, by counting all pairs of members."""
        numbers = class_numbers(self.group)
        found = classes(self.group)
        if row[0] != ONE:
            return False
        for i, ones in enumerate(found):
            for j, others in enumerate(found):
                parts = []
                for x in ones:
                    for y in others:
                        k = numbers[self.group.product(x, y)]
                        parts.append(row[k].over(len(found[k])))
                if added(parts) != row[i] * row[j]:
                    return False
        return True

    def test_central_rows(self):
        for name, table in TABLES.items():
            for k in range(len(table)):
                self.assertIs(is_central_row(table.group, table.central(k)), True, name)

    def test_changed_rows(self):
        fifth = root(5)
        for name in ("cyclic 1", "cyclic 2", "cyclic 4", "cyclic 5", "pairs 2 2", "permutations of 3, 3",
                     "permutations of 4, 11", "dihedral5", "quaternion"):
            table = TABLES[name]
            self.group = table.group
            rows = [table.central(k) for k in range(len(table))]
            for row in rows:
                changed = [tuple(-w for w in row), tuple(of_integer(0) for _ in row), tuple(w * fifth for w in row)]
                for k, w in enumerate(row):
                    for other in (w.scaled(2), -w, w * fifth, w + ONE, of_integer(0), w.over(2)):
                        changed.append(row[:k] + (other,) + row[k + 1:])
                    for other in rows:
                        changed.append(row[:k] + other[k:])
                    for j in range(k):
                        changed.append(row[:j] + (w,) + row[j + 1:k] + (row[j],) + row[k + 1:])
                for value in changed:
                    told = self.central(value)
                    self.assertEqual(told, value in rows)
                    self.assertIs(is_central_row(self.group, value), told, (name, [str(w) for w in value]))

    def test_other_lengths(self):
        for name in ("cyclic 1", "cyclic 4", "quaternion"):
            table = TABLES[name]
            for k in range(len(table)):
                row = table.central(k)
                for value in (row[:-1], row + (ONE,), row + (of_integer(0),), row + row, ()):
                    self.assertIs(is_central_row(table.group, value), False)

    def test_numbers_without_a_product_within_reach(self):
        row = (ONE, root(4999), root(4993))
        self.assertIs(is_central_row(cyclic(3), row), False)
        self.assertIs(is_central_row(cyclic(2), (ONE, root(5000))), False)
        self.assertIs(is_central_row(GROUPS["dihedral5"], (ONE, ONE, root(4999), root(4993))), False)


if __name__ == "__main__":
    unittest.main()
