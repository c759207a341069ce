"""Joins, intersections and chief rows of normal subgroups (points 7.4 and 7.5)."""

from classtable.classes import class_numbers
from classtable.constants import class_sizes
from classtable.normal import elements_of, kernel, normal_subgroups, order_of_normal, shared
from classtable.whole import prime_powers


def join(table, one, two):
    """The class indexes of all products of a member of one normal subgroup and a member of the other."""
    group = table.group
    numbers = class_numbers(group)
    others = elements_of(group, two)
    return tuple(sorted({numbers[group.product(x, y)] for x in elements_of(group, one) for y in others}))


def meet(one, two):
    """The class indexes of the intersection of two normal subgroups."""
    return shared(one, two)


def _includes(whole, part):
    """True if the first normal subgroup includes the second one."""
    return all([i in whole for i in part])


def quotient_characters(table, normal):
    """The ascending tuple of the indexes of the characters whose kernel includes the normal subgroup."""
    return tuple([k for k in range(len(table)) if _includes(kernel(table, k), normal)])


def chief_row(table):
    """The chief row: behind each member the first normal subgroup that includes it and is unlike it."""
    row = []
    # What lies between two members is of a lower order than the second, and so comes before it. Only later ones
    # than a member include it, so that one way through all of them will do.
    for other in normal_subgroups(table):
        if len(row) == 0 or _includes(other, row[-1]):
            row.append(other)
    return tuple(row)


def chief_factors(table):
    """The tuple of the quotients of the orders of neighbours in the chief row."""
    sizes = class_sizes(table.group)
    orders = [order_of_normal(sizes, part) for part in chief_row(table)]
    return tuple([higher // lower for lower, higher in zip(orders, orders[1:])])


def is_simple(table):
    """True if there are exactly two normal subgroups."""
    return len(normal_subgroups(table)) == 2


def is_soluble(table):
    """True if each factor of the chief row is a power of one prime number."""
    return all([len(prime_powers(factor)) == 1 for factor in chief_factors(table)])


def is_abelian(table):
    """True if all degrees are 1."""
    return all([d == 1 for d in table.degrees()])
