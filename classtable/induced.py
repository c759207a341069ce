"""Restricted and induced class functions (points 6.5 and 6.6)."""

from classtable.classes import as_group, classes
from classtable.cyclo import added, of_integer
from classtable.errors import Malformed
from classtable.functions import ClassFunction, everywhere


def restricted(f, subgroup):
    """The restriction of the class function f to a subgroup; raises Refused if it is none."""
    part = as_group(f.group, subgroup)
    found = classes(part)
    return ClassFunction(part, [f(subgroup[members[0]]) for members in found], known=found)


def _meetings(group, subgroup, found, x):
    """For each class of the subgroup, by its own numbers, how many conjugates g^-1 x g, one for each g, lie in it."""
    numbers = {subgroup[s]: i for i, members in enumerate(found) for s in members}
    counts = [0] * len(found)
    for g in range(len(group)):
        y = group.conjugated(x, g)
        if y in numbers:
            counts[numbers[y]] = counts[numbers[y]] + 1
    return counts


def _induced(group, subgroup, f):
    """The induced function of a class function f of the subgroup."""
    found = classes(f.group)
    known = classes(group)
    values = []
    for members in known:
        counts = _meetings(group, subgroup, found, members[0])
        total = added([value.scaled(many) for value, many in zip(f.row, counts)])
        values.append(total.over(len(subgroup)))
    return ClassFunction(group, values, known=known)


def induced(group, subgroup, f):
    """The class function of the group that f, one of the subgroup, induces."""
    part = as_group(group, subgroup)
    if f.group != part:
        raise Malformed("the function is not one of the subgroup")
    return _induced(group, subgroup, f)


def coset_function(group, subgroup):
    """The function that the constant 1 of the subgroup induces: how many cosets a member leaves where they are."""
    return _induced(group, subgroup, everywhere(as_group(group, subgroup), of_integer(1)))
