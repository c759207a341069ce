import unittest
from itertools import combinations

from classtable.classes import (
    as_group, centre, class_numbers, class_of_power, classes, derived, generated, inverse_classes, is_normal,
    is_subgroup, normal_closure, quotient)
from classtable.errors import Refused
from classtable.group import Group, cyclic
from classtable.permutation import identity
from tests.samples import GROUPS, SMALL, TINY

NO_TUPLES_OF_MEMBERS = (
    None, True, False, 0, 1, "", "0", "01", [0], [0, 1], {0: 0}, (), (True,), (False,), (0, True), (False, 1), (None,), (0, None),
    ("0",), (0, "1"), (0, (1,)), ((0,),), (0, [1]), (-1, 0), (0, 99), (0, 0), (1, 0), (0, 2, 1), object(), cyclic(2), identity(2),
    (cyclic(1),), (0, 10 ** 30))


def all_sets(group):
    many = len(group)
    for size in range(many + 1):
        yield from combinations(range(many), size)


def holds_as_subgroup(group, elems):
    return 0 in elems and all(group.product(x, y) in elems for x in elems for y in elems) and all(
        group.inverse(x) in elems for x in elems)


def holds_as_normal(group, elems):
    return holds_as_subgroup(group, elems) and all(
        group.conjugated(x, g) in elems for x in elems for g in range(len(group)))


def all_subgroups(group):
    """All subgroups of a group that three members generate."""
    many = range(len(group))
    return sorted({generated(group, (x, y, z)) for x in many for y in many for z in many[y:]})


class Classes(unittest.TestCase):
    def test_classes(self):
        for name, group in GROUPS.items():
            many = range(len(group))
            told = {tuple(sorted({group.conjugated(x, g) for g in many})) for x in many}
            found = classes(group)
            self.assertIsInstance(found, tuple)
            self.assertEqual(set(found), told, name)
            self.assertEqual(len(found), len(told))
            keys = [(group.order_of(members[0]), len(members), members[0]) for members in found]
            self.assertEqual(keys, sorted(keys))
            self.assertEqual(found[0], (0,))

    def test_some(self):
        self.assertEqual(classes(GROUPS["symmetric3"]), ((0,), (1, 2, 5), (3, 4)))
        self.assertEqual(classes(cyclic(6)), ((0,), (3,), (2,), (4,), (1,), (5,)))
        self.assertEqual([len(members) for members in classes(GROUPS["alternating5"])], [1, 15, 20, 12, 12])
        self.assertEqual(classes(cyclic(1)), ((0,),))

    def test_numbers(self):
        for group in GROUPS.values():
            found = class_numbers(group)
            self.assertIsInstance(found, tuple)
            self.assertEqual(len(found), len(group))
            for x, i in enumerate(found):
                self.assertIn(x, classes(group)[i])

    def test_powers(self):
        for group in SMALL.values():
            numbers = class_numbers(group)
            for i, members in enumerate(classes(group)):
                for k in range(-2 * group.exponent(), 2 * group.exponent() + 1):
                    told = {numbers[group.power(x, k)] for x in members}
                    self.assertEqual(told, {class_of_power(group, i, k)})

    def test_powers_with_great_exponents(self):
        group = GROUPS["dihedral5"]
        for i in range(len(classes(group))):
            self.assertEqual(class_of_power(group, i, 10 ** 40 + 3), class_of_power(group, i, 3))
            self.assertEqual(class_of_power(group, i, -(10 ** 40)), 0)

    def test_inverses(self):
        for group in GROUPS.values():
            numbers = class_numbers(group)
            found = inverse_classes(group)
            self.assertIsInstance(found, tuple)
            for i, members in enumerate(classes(group)):
                self.assertEqual({numbers[group.inverse(x)] for x in members}, {found[i]})
        self.assertEqual(inverse_classes(cyclic(3)), (0, 2, 1))
        self.assertEqual(inverse_classes(GROUPS["symmetric3"]), (0, 1, 2))


class Subgroups(unittest.TestCase):
    def test_all_sets_of_members(self):
        for group in TINY.values():
            for elems in all_sets(group):
                self.assertIs(is_subgroup(group, elems), holds_as_subgroup(group, elems))
                self.assertIs(is_normal(group, elems), holds_as_normal(group, elems))

    def test_greater_groups(self):
        for name in ("symmetric4", "alternating4", "dihedral6"):
            group = GROUPS[name]
            found = all_subgroups(group)
            normal = [elems for elems in found if is_normal(group, elems)]
            self.assertTrue(all(is_subgroup(group, elems) for elems in found))
            self.assertEqual(normal, [elems for elems in found if holds_as_normal(group, elems)])
            self.assertEqual((len(found), len(normal)), {
                "symmetric4": (30, 4), "alternating4": (10, 3), "dihedral6": (16, 7)}[name])

    def test_other_values(self):
        for group in (GROUPS["two"], GROUPS["symmetric3"]):
            for value in NO_TUPLES_OF_MEMBERS:
                self.assertIs(is_subgroup(group, value), False, value)
                self.assertIs(is_normal(group, value), False, value)
        self.assertIs(is_subgroup(cyclic(4), (0, 2)), True)
        self.assertIs(is_subgroup(cyclic(4), [0, 2]), False)
        self.assertIs(is_subgroup(cyclic(4), (2, 0)), False)
        self.assertIs(is_subgroup(cyclic(4), (0, 1, 2)), False)
        self.assertIs(is_subgroup(cyclic(4), (0, 4)), False)
        self.assertIs(is_normal(GROUPS["symmetric3"], (0, 1)), False)
        self.assertIs(is_normal(GROUPS["symmetric3"], (0, 3, 4)), True)

    def test_generated(self):
        for group in TINY.values():
            subgroups = [elems for elems in all_sets(group) if holds_as_subgroup(group, elems)]
            for elems in all_sets(group):
                least = min((s for s in subgroups if set(elems) <= set(s)), key=len)
                self.assertEqual(generated(group, elems), least)
                self.assertEqual(generated(group, list(elems)[::-1]), least)

    def test_normal_closure(self):
        for group in TINY.values():
            normal = [elems for elems in all_sets(group) if holds_as_normal(group, elems)]
            for elems in all_sets(group):
                least = min((s for s in normal if set(elems) <= set(s)), key=len)
                self.assertEqual(normal_closure(group, elems), least)
                self.assertEqual(normal_closure(group, list(elems)[::-1]), least)

    def test_generated_by_some(self):
        self.assertEqual(generated(GROUPS["symmetric4"], ()), (0,))
        self.assertEqual(generated(GROUPS["symmetric4"], []), (0,))
        self.assertEqual(normal_closure(GROUPS["symmetric4"], ()), (0,))
        self.assertEqual(generated(cyclic(12), (8, 6)), (0, 2, 4, 6, 8, 10))
        elems = [3, 3, 0]
        self.assertEqual(generated(cyclic(12), elems), (0, 3, 6, 9))
        self.assertEqual(elems, [3, 3, 0])
        self.assertEqual(len(normal_closure(GROUPS["alternating5"], (1,))), 60)
        self.assertEqual(len(normal_closure(GROUPS["symmetric4"], [1])), 24)

    def test_centre(self):
        for group in GROUPS.values():
            many = range(len(group))
            told = tuple(x for x in many if all(group.conjugated(x, g) == x for g in many))
            self.assertEqual(centre(group), told)
            self.assertTrue(is_normal(group, centre(group)))
        self.assertEqual([len(centre(GROUPS[name])) for name in ("quaternion", "symmetric3", "six")], [2, 1, 6])

    def test_derived(self):
        for group in GROUPS.values():
            many = range(len(group))
            product, inverse = group.product, group.inverse
            told = {product(product(inverse(x), inverse(y)), product(x, y)) for x in many for y in many}
            self.assertEqual(derived(group), generated(group, sorted(told)))
            self.assertTrue(is_normal(group, derived(group)))
        sizes = [len(derived(GROUPS[name])) for name in ("quaternion", "symmetric4", "alternating4", "alternating5", "six")]
        self.assertEqual(sizes, [2, 12, 4, 60, 1])


class Quotients(unittest.TestCase):
    def test_cosets(self):
        for group in SMALL.values():
            for normal in {normal_closure(group, (x,)) for x in range(len(group))}:
                other, cosets = quotient(group, normal)
                self.assertIsInstance(cosets, tuple)
                self.assertEqual(len(other) * len(normal), len(group))
                sets = {tuple(sorted(group.product(x, y) for y in normal)) for x in range(len(group))}
                for number, members in enumerate(sorted(sets)):
                    self.assertEqual({cosets[x] for x in members}, {number})
                for x in range(len(group)):
                    for y in range(len(group)):
                        self.assertEqual(other.product(cosets[x], cosets[y]), cosets[group.product(x, y)])

    def test_some(self):
        self.assertEqual(quotient(cyclic(4), (0, 2)), (cyclic(2), (0, 1, 0, 1)))
        self.assertEqual(quotient(cyclic(4), (0,)), (cyclic(4), (0, 1, 2, 3)))
        self.assertEqual(quotient(cyclic(4), (0, 1, 2, 3)), (cyclic(1), (0, 0, 0, 0)))

    def test_refused(self):
        for group, values in ((GROUPS["symmetric3"], ((0, 1), (0, 1, 2), (0, 4, 3), [0, 3, 4]) + NO_TUPLES_OF_MEMBERS),
                              (cyclic(4), ([0, 2], (0, 1), (2,), ()))):
            for value in values:
                with self.assertRaises(Refused, msg=repr(value)) as caught:
                    quotient(group, value)
                self.assertEqual(caught.exception.reason, "normal")


class GroupsOfTheirOwn(unittest.TestCase):
    def test_as_group(self):
        for name in ("symmetric4", "dihedral6", "quaternion", "mixed"):
            group = GROUPS[name]
            for subgroup in all_subgroups(group):
                other = as_group(group, subgroup)
                self.assertIsInstance(other, Group)
                self.assertEqual(len(other), len(subgroup))
                for x, a in enumerate(subgroup):
                    for y, b in enumerate(subgroup):
                        self.assertEqual(subgroup[other.product(x, y)], group.product(a, b))
        self.assertEqual(as_group(cyclic(12), (0, 3, 6, 9)), cyclic(4))
        self.assertEqual(as_group(cyclic(12), (0,)), cyclic(1))

    def test_refused(self):
        for value in ((0, 1, 2), (0, 3), [0, 3, 4], (0, 4, 3), (3, 4)) + NO_TUPLES_OF_MEMBERS:
            with self.assertRaises(Refused, msg=repr(value)) as caught:
                as_group(GROUPS["symmetric3"], value)
            self.assertEqual(caught.exception.reason, "subgroup")


if __name__ == "__main__":
    unittest.main()
