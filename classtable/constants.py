"""Class sums and class constants (chapter 3)."""

from classtable.classes import class_numbers, classes, inverse_classes


def _matrix(group, members, found, numbers):
    """The class matrix of the class with these members, by all classes and the class numbers of the group."""
    rows = [[0] * len(found) for _ in found]
    for k, targets in enumerate(found):
        for x in members:
            # For a fixed z of the class k, each x has one y with x y = z.
            j = numbers[group.product(group.inverse(x), targets[0])]
            rows[j][k] = rows[j][k] + 1
    return tuple([tuple(row) for row in rows])


def constant(group, i, j, k):
    """The class constant a(i, j, k)."""
    return class_matrix(group, i)[j][k]


def class_matrix(group, i):
    """The class matrix of i: a(i, j, k) in the row j and the column k."""
    found = classes(group)
    return _matrix(group, found[i], found, class_numbers(group))


def class_matrices(group):
    """The tuple of the class matrices of all classes."""
    found = classes(group)
    numbers = class_numbers(group)
    return tuple([_matrix(group, members, found, numbers) for members in found])


def central_product(group, x, y):
    """The product of two tuples of the coefficients of the class sums, as such a tuple."""
    numbers = class_numbers(group)
    out = []
    for members in classes(group):
        z = members[0]
        out.append(sum([x[i] * y[numbers[group.product(group.inverse(g), z)]] for g, i in enumerate(numbers)]))
    return tuple(out)


def class_sizes(group):
    """The tuple of the sizes of the classes."""
    return tuple([len(members) for members in classes(group)])


def triples(group, i, j, k):
    """The number of triples of members of the classes i, j and k whose product is the unit."""
    return class_sizes(group)[k] * constant(group, i, j, inverse_classes(group)[k])


def commuting_pairs(group):
    """The number of pairs that commute: each x does so with as many members as its class goes into the order."""
    return len(group) * len(classes(group))
