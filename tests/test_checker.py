"""Papers of character tables and their checker."""

import ast
import pathlib
import random
import time
import unittest

from classtable.checker import is_class_list, takes_table
from classtable.classes import classes
from classtable.cyclo import Cyclo, of_integer, root
from classtable.functions import everywhere
from classtable.group import cyclic, direct
from classtable.papers import table_paper
from classtable.permutation import identity
from classtable.table import character_table
from tests.samples import ALL_KINDS, GROUPS

FOLDER = pathlib.Path(__file__).resolve().parent.parent / "classtable"
ONE, ZERO = of_integer(1), of_integer(0)
TESTED = list(ALL_KINDS.items()) + [
    ("alternating5", GROUPS["alternating5"]), ("dihedral6", GROUPS["dihedral6"]), ("dihedral4", GROUPS["dihedral4"])]
PAPERS = {name: table_paper(character_table(group)) for name, group in TESTED}
SOME = [(name, dict(TESTED)[name]) for name in (
    "cyclic 2", "cyclic 3", "cyclic 5", "pairs 2 2", "permutations of 3, 3", "permutations of 3, 3, rotated",
    "permutations of 4, 11", "permutations of 4, 8", "quaternion", "dihedral5", "alternating5")]
OTHER_VALUES = (
    None, True, False, 0, 1, -1, 10 ** 30, "", "table", "1", (), [], {}, (1,), (0,), ((0,),), ((0,), (1,)), [[0]], (("table",),),
    ONE, ZERO, root(5), (ONE,), ((ONE,),), [ONE], cyclic(1), cyclic(2), identity(3), object(),
    character_table(cyclic(1)), character_table(cyclic(2)), everywhere(cyclic(2), ONE), ("table",), ("table", (), (), ()),
    (True, False), (None,) * 4, ("table", None, None, None), (((),),), ("table", ((0,),), (1,), ((ONE,),), ()))


def set_at(items, at, value):
    return items[:at] + (value,) + items[at + 1:]


def rearranged(items, order):
    return tuple(items[k] for k in order)


def with_classes_in(paper, order):
    """The paper with its classes, and the values at them, in another order."""
    word, found, degrees, values = paper
    return (word, rearranged(found, order), degrees, tuple(rearranged(row, order) for row in values))


def with_rows_in(paper, order):
    word, found, degrees, values = paper
    return (word, found, rearranged(degrees, order), rearranged(values, order))


class Taken(unittest.TestCase):
    def test_paper(self):
        for name, group in TESTED:
            table = character_table(group)
            paper = table_paper(table)
            self.assertIsInstance(paper, tuple)
            self.assertEqual(paper, ("table", classes(group), table.degrees(), table.rows), name)
            self.assertIs(takes_table(group, paper), True, name)

    def test_example(self):
        self.assertEqual(table_paper(character_table(cyclic(1))), ("table", ((0,),), (1,), ((ONE,),)))
        self.assertIs(takes_table(cyclic(1), ("table", ((0,),), (1,), ((ONE,),))), True)
        word, found, degrees, values = table_paper(character_table(cyclic(2)))
        self.assertIs(takes_table(cyclic(2), (word, found, degrees, (values[0], values[0]))), False)
        self.assertIs(takes_table(cyclic(2), (word, found, degrees, (values[1], values[1]))), False)

    def test_other_orders(self):
        draw = random.Random(1)
        for name, group in TESTED:
            many = len(PAPERS[name][1])
            for _ in range(3):
                order = [0] + draw.sample(range(1, many), many - 1)
                paper = with_classes_in(PAPERS[name], order)
                self.assertIs(takes_table(group, paper), True, name)
                self.assertIs(takes_table(group, with_rows_in(paper, draw.sample(range(many), many))), True, name)

    def test_numbers_made_otherwise(self):
        group = cyclic(3)
        third = Cyclo(9, (0, 0, 0, 6), 6)
        paper = ("table", ((0,), (1,), (2,)), (1, 1, 1), (
            (ONE, ONE, ONE), (ONE, third, third * third), (ONE, Cyclo(3, (-5, -5), 5), Cyclo(12, (0, 0, 0, 0, 1)))))
        self.assertIs(takes_table(group, paper), True)

    def test_order_60(self):
        start = time.monotonic()
        for group in (GROUPS["alternating5"], cyclic(60), cyclic(59), direct(cyclic(30), cyclic(2)),
                      direct(GROUPS["dihedral4"], cyclic(7)), direct(GROUPS["alternating4"], cyclic(5))):
            paper = table_paper(character_table(group))
            self.assertIs(takes_table(group, paper), True)
            word, found, degrees, values = paper
            last = values[-1]
            self.assertIs(takes_table(group, (word, found, degrees, set_at(values, -1, last)[:-1])), False)
            self.assertIs(takes_table(group, (word, found, degrees, values[:-1] + (set_at(last, 1, last[1].scaled(2)),))), False)
        self.assertLess(time.monotonic() - start, 30)


class NotTaken(unittest.TestCase):
    def not_taken(self, make):
        """Each of the papers that `make` makes of the parts of a paper is not taken."""
        for name, group in SOME:
            found = list(make(*PAPERS[name][1:]))
            self.assertTrue(found, name)
            for parts in found:
                paper = ("table", *parts) if len(parts) == 3 else parts
                self.assertIs(takes_table(group, paper), False, (name, paper))

    def test_a_class_left_out(self):
        def make(found, degrees, values):
            for k in range(len(found)):
                less = found[:k] + found[k + 1:]
                yield less, degrees, values
                yield less, degrees, tuple(row[:k] + row[k + 1:] for row in values)
                yield less, degrees[1:], tuple(row[:k] + row[k + 1:] for row in values[1:])
        self.not_taken(make)

    def test_a_class_told_twice(self):
        def make(found, degrees, values):
            for k in range(len(found)):
                yield found + (found[k],), degrees, values
                yield found + (found[k],), degrees, tuple(row + (row[k],) for row in values)
                yield set_at(found, 1, found[k]) if k != 1 else set_at(found, 0, found[k]), degrees, values
        self.not_taken(make)

    def test_a_class_that_is_not_ascending(self):
        def make(found, degrees, values):
            for k, members in enumerate(found):
                if len(members) > 1:
                    yield set_at(found, k, members[::-1]), degrees, values
                yield set_at(found, k, members + members[-1:]), degrees, values
        self.not_taken(make)

    def test_no_class(self):
        def make(found, degrees, values):
            last = found[-1]
            for other in ((), last[:-1], last + (99,), (last,), list(last), last[0], None, "1", tuple(str(x) for x in last),
                          tuple(of_integer(x) for x in last), last[:-1] + (last[-1] + 1,), (-1,), (0,)):
                yield set_at(found, len(found) - 1, other), degrees, values
            # Members of two classes exchanged, and two classes as one.
            yield found[:-2] + (tuple(sorted(found[-1] + found[-2])),), degrees, values
            yield found + ((),), degrees, values
        self.not_taken(make)

    def test_booleans_for_members(self):
        word, found, degrees, values = PAPERS["cyclic 2"]
        for other in (((False,), (1,)), ((0,), (True,)), ((False,), (True,))):
            self.assertIs(is_class_list(cyclic(2), other), False)
            self.assertIs(takes_table(cyclic(2), (word, other, degrees, values)), False)

    def test_the_unit_not_first(self):
        for name, group in SOME:
            many = len(PAPERS[name][1])
            for order in ([*range(1, many), 0], [1, 0, *range(2, many)]):
                self.assertIs(takes_table(group, with_classes_in(PAPERS[name], order)), False, name)
                self.assertIs(is_class_list(group, rearranged(PAPERS[name][1], order)), False, name)

    def test_values_at_other_classes(self):
        # The values of two classes of unlike sizes or orders are exchanged, and the classes are not.
        group = GROUPS["symmetric4"]
        word, found, degrees, values = table_paper(character_table(group))
        for order in ((0, 2, 1, 3, 4), (0, 3, 2, 1, 4), (0, 1, 2, 4, 3), (0, 2, 3, 1, 4)):
            paper = (word, found, degrees, tuple(rearranged(row, order) for row in values))
            self.assertIs(takes_table(group, paper), False)

    def test_number_of_degrees(self):
        def make(found, degrees, values):
            yield found, degrees[:-1], values
            yield found, degrees[1:], values
            yield found, degrees + (1,), values
            yield found, (), values
        self.not_taken(make)

    def test_number_of_rows(self):
        def make(found, degrees, values):
            yield found, degrees, values[:-1]
            yield found, degrees, values[1:]
            yield found, degrees, values + values[-1:]
            yield found, degrees[:-1], values[:-1]
            yield found, degrees + degrees[-1:], values + values[-1:]
            yield found, (), ()
            yield found, degrees, ()
        self.not_taken(make)

    def test_number_of_values(self):
        def make(found, degrees, values):
            for k, row in enumerate(values):
                for other in (row[:-1], row[1:], row + (ONE,), row + row[-1:], ()):
                    yield found, degrees, set_at(values, k, other)
            yield found, degrees, tuple(row[:-1] for row in values)
            yield found, degrees, tuple(row + row[:1] for row in values)
        self.not_taken(make)

    def test_degrees(self):
        def make(found, degrees, values):
            for k, d in enumerate(degrees):
                for other in (0, -d, -1, d + 1, 2 * d, d - 1, None, str(d), (d,), of_integer(d), 10 ** 40):
                    yield found, set_at(degrees, k, other), values
                if d == 1:
                    yield found, set_at(degrees, k, True), values
            yield found, list(degrees), values
        self.not_taken(make)

    def test_a_row_with_another_first_value(self):
        def make(found, degrees, values):
            for k, row in enumerate(values):
                for c in (-1, 2, 3, 0):
                    # The row keeps its central row if its degree is changed, too.
                    other = tuple(x.scaled(c) for x in row)
                    yield found, degrees, set_at(values, k, other)
                    yield found, set_at(degrees, k, degrees[k] * c), set_at(values, k, other)
                yield found, degrees, set_at(values, k, (row[0].scaled(2),) + row[1:])
        self.not_taken(make)

    def test_the_square_of_the_degree(self):
        # Twice the row with twice the degree has the same central row, so only point 5 speaks against it.
        group = GROUPS["symmetric3"]
        word, found, degrees, values = table_paper(character_table(group))
        for k in range(3):
            paper = (word, found, set_at(degrees, k, 2 * degrees[k]), set_at(values, k, tuple(x.scaled(2) for x in values[k])))
            self.assertIs(takes_table(group, paper), False)

    def test_no_central_row(self):
        def make(found, degrees, values):
            for k, row in enumerate(values):
                for j in range(1, len(row)):
                    x = row[j]
                    for other in (x + ONE, -x - ONE, x * root(5), x.scaled(2) + ONE, x + root(7), root(4999)):
                        if other.key() != x.key():
                            yield found, degrees, set_at(values, k, set_at(row, j, other))
        self.not_taken(make)

    def test_numbers_without_a_sum_within_reach(self):
        word, found, degrees, values = PAPERS["dihedral5"]
        for row in ((ONE, ONE, root(4999), root(4993)), (ONE, root(4999), root(4993), root(4987))):
            paper = (word, found, degrees, set_at(values, 1, row))
            self.assertIs(takes_table(GROUPS["dihedral5"], paper), False)

    def test_a_mixed_row(self):
        def make(found, degrees, values):
            for k in range(1, len(values)):
                for j in range(1, len(found)):
                    mixed = values[0][:j] + values[k][j:]
                    if degrees[k] == 1 and mixed not in values:
                        yield found, degrees, set_at(values, k, mixed)
                yield found, degrees, set_at(values, k, tuple(x + y for x, y in zip(values[k], values[k - 1])))
        self.not_taken(make)

    def test_a_row_told_twice(self):
        def make(found, degrees, values):
            for k in range(len(values)):
                for j in range(len(values)):
                    if j != k:
                        yield found, set_at(degrees, k, degrees[j]), set_at(values, k, values[j])
        self.not_taken(make)

    def test_values_that_are_no_numbers(self):
        def make(found, degrees, values):
            for k, row in enumerate(values):
                for j, x in enumerate(row):
                    others = [None, str(x), x.key(), (x,), [x], True, False, found]
                    if x.whole() is not None:
                        others.append(x.whole())
                    for other in others:
                        yield found, degrees, set_at(values, k, set_at(row, j, other))
        self.not_taken(make)

    def test_lists(self):
        def make(found, degrees, values):
            yield list(found), degrees, values
            yield found, list(degrees), values
            yield found, degrees, list(values)
            yield found, degrees, tuple(list(row) for row in values)
            yield found, degrees, set_at(values, 0, list(values[0]))
            yield set_at(found, 0, [0]), degrees, values
            yield ["table", found, degrees, values]
        self.not_taken(make)

    def test_word_and_length(self):
        def make(found, degrees, values):
            for word in ("tables", "Table", "", "table ", None, 0, True, ("table",), ["table"], ONE, b"table"):
                yield word, found, degrees, values
            yield "table", found, degrees, values, ()
            yield "table", found, degrees, values, values
            yield (found, degrees, values)[:2]
            yield ("table", (found, degrees, values))
        self.not_taken(make)

    def test_every_value(self):
        for _, group in SOME + [("trivial", cyclic(1))]:
            for value in OTHER_VALUES:
                self.assertIs(takes_table(group, value), False, value)
                self.assertIs(takes_table(group, ("table", value, (1,), ((ONE,),))), value == ((0,),) and len(group) == 1)
            for value in OTHER_VALUES:
                self.assertIs(takes_table(group, ("table", classes(group), value, ((ONE,),))), value == (1,) and len(group) == 1)
                told = len(group) == 1 and isinstance(value, tuple) and value == ((ONE,),)
                self.assertIs(takes_table(group, ("table", classes(group), (1,), value)), told)

    def test_tables_of_other_groups(self):
        for one, group in SOME:
            for two, paper in PAPERS.items():
                if dict(TESTED)[two] != group:
                    told = takes_table(group, paper)
                    if classes(dict(TESTED)[two]) != classes(group):
                        self.assertIs(told, False, (one, two))
                    else:
                        self.assertIs(told, {str(row) for row in rows_as_texts(paper)} == {
                            str(row) for row in rows_as_texts(PAPERS[one])}, (one, two))

    def test_groups_with_the_same_classes_in_other_numbers(self):
        # Q8 and D4 have the same table, but not the same classes.
        one, two = GROUPS["quaternion"], GROUPS["dihedral4"]
        self.assertIs(takes_table(one, PAPERS["dihedral4"]), False)
        self.assertIs(takes_table(two, PAPERS["quaternion"]), False)
        # The cyclic group of order 4 and the pairs have the same classes in another order.
        word, found, degrees, values = PAPERS["pairs 2 2"]
        self.assertIs(takes_table(cyclic(4), (word, classes(cyclic(4)), degrees, values)), False)
        word, found, degrees, values = PAPERS["cyclic 4"]
        self.assertIs(takes_table(GROUPS["four-group"], (word, ((0,), (1,), (2,), (3,)), degrees, values)), False)


def rows_as_texts(paper):
    """The rows of a paper, sorted, with the classes sorted."""
    order = sorted(range(len(paper[1])), key=lambda k: paper[1][k])
    return sorted([str(row[k]) for k in order] for row in paper[3])


class ClassLists(unittest.TestCase):
    def test_all_orders(self):
        for name, group in TESTED:
            found = classes(group)
            self.assertIs(is_class_list(group, found), True)
            self.assertIs(is_class_list(group, found[:1] + found[:0:-1]), True)
            self.assertIs(is_class_list(group, found[::-1]), len(found) == 1)
            for value in (found[:-1], found + found[-1:], found + ((),), list(found), [list(x) for x in found], ()):
                self.assertIs(is_class_list(group, value), False, name)

    def test_every_value(self):
        for group in (cyclic(2), cyclic(3), GROUPS["symmetric3"]):
            for value in OTHER_VALUES:
                self.assertIs(is_class_list(group, value), len(group) == 2 and value == ((0,), (1,)))
        for value in OTHER_VALUES:
            self.assertIs(is_class_list(cyclic(1), value), value == ((0,),))
        for value in (((0,), (1, 2, 5), (4, 3)), ((0,), (1, 2, 5), (3, 4, 4)), ((0,), (1, 2, 3, 4, 5)), ((0,), (1, 2), (3, 4, 5)),
                      ((0,), (1, 2, 5), (3, "4")), ((0,), (1, 2, 5), (3, None)), ((0,), (1, 2, 5), (3, (4,))), ((0,), 1, 2),
                      ((0,), (1, 2, 5), (3, 4), (6,)), ((0,), (-1, 2, 5), (3, 4)), ((0,), (True, 2, 5), (3, 4))):
            self.assertIs(is_class_list(GROUPS["symmetric3"], value), False, value)
        self.assertIs(is_class_list(GROUPS["symmetric3"], ((0,), (3, 4), (1, 2, 5))), True)


class Alone(unittest.TestCase):
    def test_the_checker_uses_no_function_of_chapters_3_and_4(self):
        found, waiting = set(), ["checker"]
        while waiting:
            name = waiting.pop()
            if name not in found:
                found.add(name)
                tree = ast.parse((FOLDER / f"{name}.py").read_text())
                for node in ast.walk(tree):
                    if isinstance(node, ast.ImportFrom) and node.module.startswith("classtable."):
                        waiting.append(node.module.partition(".")[2])
        self.assertEqual(found & {"constants", "splitting", "lifting", "modular", "table", "papers", "eigenvalues"}, set())


if __name__ == "__main__":
    unittest.main()
