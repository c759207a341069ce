"""Central rows modulo a prime, by splitting the space of all columns (points 4.1 to 4.3)."""

from classtable.constants import class_matrices
from classtable.errors import Refused
from classtable.modular import eigenspaces, kernel, product, reduced, times
from classtable.whole import common, generator_modulo, is_integer, power_modulo, prime_above, root_floor


def prime_of(n, e):
    """The least prime that is 1 more than a multiple of e and whose square is greater than 4 n."""
    return prime_above(e, root_floor(4 * n))


def root_of(p, e):
    """The least number whose powers modulo p first give 1 at e, for a prime p that is 1 more than a multiple of e."""
    one = power_modulo(generator_modulo(p), (p - 1) // e, p)
    return min([power_modulo(one, k, p) for k in range(1, e + 1) if common([k, e]) == 1])


def _kept(vectors, matrix, t, p):
    """The reduced basis of the combinations of the vectors that the matrix takes to their t-fold."""
    width = len(matrix)
    changes = []
    for vector in vectors:
        changes.append([c - t * x for c, x in zip(times(matrix, vector, p), vector)])
    equations = [[change[k] for change in changes] for k in range(width)]
    combinations = kernel(equations, len(vectors), p)
    basis, _ = reduced(product(combinations, vectors, width, p), width, p)
    return basis


def _parted(basis, matrix, p):
    """The bases of the intersections, none of them zero, of a space with the kernels of the matrix less t."""
    width = len(matrix)
    pivots = [vector.index(1) for vector in basis]
    # The basis is reduced, so the items at the pivots are the multiples of its vectors. An eigenvector in the
    # space is one of these items, too; the rest of the items is looked at afterwards.
    items = []
    for vector in basis:
        image = times(matrix, vector, p)
        items.append([image[k] for k in pivots])
    found = []
    for t, multiples in eigenspaces(items, p):
        part = _kept(product(multiples, basis, width, p), matrix, t, p)
        if len(part) > 0:
            found.append(part)
    return found


def split(matrices, p):
    """The tuple of the modular rows, ascending; raises Refused if the matrices do not part all columns."""
    width = len(matrices[0])
    units, _ = reduced([[0] * k + [1] + [0] * (width - k - 1) for k in range(width)], width, p)
    spaces = [units]
    for matrix in matrices[1:]:
        parts = []
        for basis in spaces:
            parts = parts + (_parted(basis, matrix, p) if len(basis) > 1 else [basis])
        spaces = parts
    for basis in spaces:
        if len(basis) > 1 or basis[0][0] == 0:
            raise Refused("split")
    return tuple(sorted([basis[0] for basis in spaces]))


def modular_rows(group):
    """The pair of the prime of the group and its modular rows, ascending."""
    p = prime_of(len(group), group.exponent())
    return p, split(class_matrices(group), p)


def is_modular_row(matrices, p, row):
    """True if the value is a modular row (point 4.2) for the class matrices; False for every other value."""
    if not isinstance(row, tuple) or len(row) != len(matrices):
        return False
    if not all([is_integer(w) and 0 <= w < p for w in row]) or row[0] != 1:
        return False
    return all([times(matrix, row, p) == tuple([w * v % p for v in row]) for w, matrix in zip(row, matrices)])
