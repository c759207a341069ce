import time
import unittest

from classtable.classes import as_group, class_numbers
from classtable.cyclo import added, of_integer, root
from classtable.errors import Malformed, Refused
from classtable.functions import ClassFunction, character, everywhere, fixed_points
from classtable.group import cyclic, direct, from_permutations
from classtable.induced import coset_function, induced, restricted
from classtable.permutation import Permutation
from classtable.table import character_table
from tests.samples import GROUPS, PARTED, at_all, drawn, no_subgroups, rotated_numbers, subgroups_of

ONE = of_integer(1)
TABLES = {name: character_table(group) for name, group in PARTED.items()}


def parts():
    """All triples of a name, its group and one of its subgroups."""
    return [(name, group, part) for name, group in PARTED.items() for part in subgroups_of(group)]


def some_functions(table):
    """The characters, and two other class functions."""
    found = [character(table, k) for k in range(len(table))]
    return found + [drawn(table.group, 1), drawn(table.group, 3).scaled(root(5))]


def members_of(group):
    """All members, or one of each class in a group of order 60."""
    if len(group) < 60:
        return range(len(group))
    return {i: x for x, i in enumerate(class_numbers(group))}.values()


def counted(group, part, f, x):
    """The sum over the conjugates of x in the subgroup, divided by the order of the subgroup."""
    values = at_all(f)
    met = [group.product(group.product(group.inverse(g), x), g) for g in range(len(group))]
    return added([values[part.index(y)] for y in met if y in part]).over(len(part))


def coset_count(group, part, x):
    cosets = {frozenset(group.product(g, h) for h in part) for g in range(len(group))}
    return sum(frozenset(group.product(x, y) for y in coset) == coset for coset in cosets)


class Restricted(unittest.TestCase):
    def test_values(self):
        for name, group, part in parts():
            for f in some_functions(TABLES[name]):
                told = restricted(f, part)
                self.assertIsInstance(told, ClassFunction)
                self.assertEqual(told.group, as_group(group, part))
                values = at_all(f)
                self.assertEqual(at_all(told), [values[x] for x in part])
                self.assertEqual([told(s) for s in range(len(part))], [values[x] for x in part])

    def test_characters_become_sums_of_characters(self):
        for name in ("dihedral6", "quaternion", "alternating4", "permutations of 4, 8", "alternating5"):
            for part in subgroups_of(PARTED[name])[::3]:
                table = character_table(as_group(PARTED[name], part))
                for k in range(len(TABLES[name])):
                    self.assertIs(restricted(character(TABLES[name], k), part).is_sum_of_characters(table), True)

    def test_the_unit_alone_and_the_whole_group(self):
        for name, group in PARTED.items():
            for f in some_functions(TABLES[name]):
                self.assertEqual(restricted(f, (0,)), everywhere(cyclic(1), f.degree()))
                self.assertEqual(restricted(f, tuple(range(len(group)))), f)

    def test_refused(self):
        for name, group in PARTED.items():
            f = drawn(group, 2)
            for part in no_subgroups(group):
                with self.assertRaises(Refused, msg=(name, part)) as caught:
                    restricted(f, part)
                self.assertEqual(caught.exception.reason, "subgroup")


class Induced(unittest.TestCase):
    def test_values(self):
        for name, group, part in parts():
            own = as_group(group, part)
            functions = [drawn(own, 1)] if len(group) == 60 else some_functions(character_table(own))
            for f in functions:
                told = induced(group, part, f)
                self.assertIsInstance(told, ClassFunction)
                self.assertEqual(told.group, group)
                for x in members_of(group):
                    self.assertEqual(told(x), counted(group, part, f, x), (name, part, x))

    def test_inner_products(self):
        for name, group, part in parts():
            table = TABLES[name]
            own = character_table(as_group(group, part))
            others = some_functions(table)[-4:]
            below = [restricted(g, part) for g in others]
            for f in some_functions(own)[-3:]:
                above = induced(group, part, f)
                self.assertEqual([above.inner(g) for g in others], [f.inner(g) for g in below])

    def test_induced_characters_are_sums_of_characters(self):
        for name, group, part in parts():
            own = character_table(as_group(group, part))
            for k in range(len(own)):
                told = induced(group, part, character(own, k))
                self.assertIs(told.is_sum_of_characters(TABLES[name]), True)
                self.assertEqual(told.degree().whole(), own.degrees()[k] * len(group) // len(part))

    def test_the_unit_alone_and_the_whole_group(self):
        for name, group in PARTED.items():
            everyone = tuple(range(len(group)))
            for f in some_functions(TABLES[name]):
                self.assertEqual(induced(group, everyone, f), f)
            told = induced(group, (0,), everywhere(cyclic(1), root(7)))
            self.assertEqual(told.row, (root(7).scaled(len(group)),) + (of_integer(0),) * (len(told.row) - 1))

    def test_in_two_steps(self):
        group = PARTED["permutations of 4, 8"]
        for part in subgroups_of(group):
            own = as_group(group, part)
            for smaller in subgroups_of(own):
                f = drawn(as_group(own, smaller), 2)
                above = tuple(part[s] for s in smaller)
                self.assertEqual(induced(group, part, induced(own, smaller, f)), induced(group, above, f))
                g = drawn(group, 2)
                self.assertEqual(restricted(restricted(g, part), smaller), restricted(g, above))

    def test_values_that_are_not_met_are_left_out(self):
        # The sum of all these values is out of reach, but no class has more than one of them.
        f = ClassFunction(cyclic(4), [ONE, root(4999), root(4993), root(4987)])
        self.assertEqual(induced(cyclic(4), (0, 1, 2, 3), f), f)
        self.assertEqual(induced(cyclic(8), (0, 2, 4, 6), f)(6), f(3).scaled(2))

    def test_malformed(self):
        group = GROUPS["symmetric4"]
        four = tuple(x for x in subgroups_of(group) if as_group(group, x) == GROUPS["four-group"])[0]
        for other in (cyclic(4), cyclic(3), cyclic(1), GROUPS["quaternion"], group):
            self.assertRaises(Malformed, induced, group, four, everywhere(other, ONE))
        self.assertEqual(induced(group, four, everywhere(direct(cyclic(2), cyclic(2)), ONE)).degree().whole(), 6)
        for name, group, part in parts():
            own = as_group(group, part)
            for other in (rotated_numbers(own), group, direct(cyclic(2), cyclic(1))):
                if other != own:
                    self.assertRaises(Malformed, induced, group, part, drawn(other, 1))

    def test_refused_first(self):
        for name, group in PARTED.items():
            for part in no_subgroups(group):
                for f in (drawn(group, 1), everywhere(cyclic(7), ONE), None):
                    with self.assertRaises(Refused, msg=(name, part)) as caught:
                        induced(group, part, f)
                    self.assertEqual(caught.exception.reason, "subgroup")


class Cosets(unittest.TestCase):
    def test_counted(self):
        for name, group, part in parts():
            told = coset_function(group, part)
            self.assertIsInstance(told, ClassFunction)
            self.assertEqual(told.group, group)
            for x in members_of(group):
                self.assertEqual(told(x).whole(), coset_count(group, part, x))

    def test_induced_of_1(self):
        for name, group, part in parts():
            self.assertEqual(coset_function(group, part), induced(group, part, everywhere(as_group(group, part), ONE)))

    def test_multiples(self):
        for name, group, part in parts():
            told = coset_function(group, part)
            multiples = [m.whole() for m in told.multiples(TABLES[name])]
            self.assertTrue(all(m is not None and m >= 0 for m in multiples))
            self.assertEqual(multiples[0], 1)
            self.assertIs(told.is_sum_of_characters(TABLES[name]), True)
            if part == (0,):
                self.assertEqual(tuple(multiples), TABLES[name].degrees())
            if len(part) == len(group):
                self.assertEqual(told, everywhere(group, ONE))

    def test_refused(self):
        for name, group in PARTED.items():
            for part in no_subgroups(group):
                with self.assertRaises(Refused, msg=(name, part)) as caught:
                    coset_function(group, part)
                self.assertEqual(caught.exception.reason, "subgroup")

    def test_fixed_points(self):
        for generators in (((1, 0, 2), (1, 2, 0)), ((1, 2, 0, 3), (0, 2, 1, 3)), ((1, 2, 3, 0), (1, 0, 2, 3)), ((0, 1, 2),),
                           ((1, 2, 3, 4, 0), (1, 2, 0, 3, 4)), ((1, 0, 3, 2, 4, 5, 6, 7),), ((1, 2, 3, 4, 5, 0),),
                           ((1, 2, 0, 3, 4, 5), (0, 1, 2, 4, 3, 5)), ((0,),)):
            group, permutations = from_permutations(tuple(Permutation(images) for images in generators))
            multiples = [m.whole() for m in fixed_points(group, permutations).multiples(character_table(group))]
            self.assertTrue(all(m is not None and m >= 0 for m in multiples))
            points = range(len(generators[0]))
            self.assertEqual(multiples[0], len({frozenset(g(k) for g in permutations) for k in points}))
            # One set of points that go to one another is moved as the cosets of those that leave one of them.
            if multiples[0] == 1:
                stays = tuple(x for x, g in enumerate(permutations) if g(0) == 0)
                self.assertEqual(coset_function(group, stays), fixed_points(group, permutations))

    def test_order_60(self):
        start = time.monotonic()
        for group in (GROUPS["alternating5"], cyclic(60), direct(cyclic(2), cyclic(30)), direct(cyclic(5), GROUPS["dihedral6"])):
            table = character_table(group)
            for part in (tuple(range(60)), tuple(subgroups_of(group)[-2]), (0,)):
                own = character_table(as_group(group, part))
                f = character(own, len(own) - 1)
                g = character(table, len(table) - 1)
                self.assertEqual(induced(group, part, f).inner(g), f.inner(restricted(g, part)))
                self.assertEqual(coset_function(group, part).multiples(table)[0], ONE)
        self.assertLess(time.monotonic() - start, 60)


if __name__ == "__main__":
    unittest.main()
