"""Normal subgroups read off the character table (points 7.1 to 7.3).

They are given as ascending tuples of class indexes.
"""

from classtable.classes import classes
from classtable.constants import class_sizes


def kernel(table, k):
    """The ascending tuple of the indexes of the classes in the kernel of the character k."""
    row = table.rows[k]
    return tuple([i for i, value in enumerate(row) if value == row[0]])


def centre(table, k):
    """The ascending tuple of the indexes of the classes in the centre of the character k."""
    row = table.rows[k]
    most = row[0].norm_square()
    return tuple([i for i, value in enumerate(row) if value.norm_square() == most])


def elements_of(group, indexes):
    """The ascending tuple of the members of the classes with these indexes, each once."""
    found = classes(group)
    return tuple(sorted({x for i in indexes for x in found[i]}))


def shared(one, two):
    """The ascending tuple of the indexes in both tuples."""
    return tuple(sorted([i for i in one if i in two]))


def _shared_by_all(table, parts):
    """The class indexes in all of these tuples: those of all classes if there are none."""
    found = tuple(range(len(table)))
    for part in parts:
        found = shared(found, part)
    return found


def order_of_normal(sizes, indexes):
    """How many members a normal subgroup has, by the sizes of all classes."""
    return sum([sizes[i] for i in indexes])


def normal_subgroups(table):
    """The tuple of all normal subgroups, in ascending order of their orders, then of the tuples."""
    # Each is the intersection of some kernels (point 7.2), so the kernels are taken in one after the other.
    met = {tuple(range(len(table))): True}
    for k in range(len(table)):
        one = kernel(table, k)
        for other in list(met):
            met[shared(one, other)] = True
    sizes = class_sizes(table.group)
    return tuple([item[1] for item in sorted([(order_of_normal(sizes, part), part) for part in met])])


def derived(table):
    """The ascending tuple of the class indexes of the derived subgroup."""
    return _shared_by_all(table, [kernel(table, k) for k in linear(table)])


def group_centre(table):
    """The ascending tuple of the class indexes of the centre of the group."""
    return _shared_by_all(table, [centre(table, k) for k in range(len(table))])


def linear(table):
    """The tuple of the indexes of the characters of degree 1."""
    return tuple([k for k, d in enumerate(table.degrees()) if d == 1])
