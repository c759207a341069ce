"""Vectors and matrices modulo a prime p, as point 1.7 tells them."""

from classtable.eigenvalues import eigenvalues, less
from classtable.whole import inverse_modulo


def _row_with(rows, start, column):
    """The index of the first row from start on that is not zero at the column, or None."""
    for at in range(start, len(rows)):
        if rows[at][column] != 0:
            return at
    return None


def reduced(rows, width, p):
    """The pair (rows, pivots) of the reduced matrix with the same span."""
    rest = [[c % p for c in row] for row in rows]
    pivots = []
    for column in range(width):
        done = len(pivots)
        at = _row_with(rest, done, column)
        if at is not None:
            unit = inverse_modulo(rest[at][column], p)
            pivot_row = [c * unit % p for c in rest[at]]
            rest[at] = rest[done]
            rest = [less(row, row[column], pivot_row, p) for row in rest]
            rest[done] = pivot_row
            pivots.append(column)
    return tuple([tuple(row) for row in rest[:len(pivots)]]), tuple(pivots)


def kernel(rows, width, p):
    """The vectors, one for each column that is no pivot, whose product with each row is 0."""
    basis, pivots = reduced(rows, width, p)
    found = []
    for column in range(width):
        if column not in pivots:
            vector = [0] * width
            vector[column] = 1
            for row, pivot in zip(basis, pivots):
                vector[pivot] = -row[column] % p
            found.append(tuple(vector))
    return tuple(found)


def coordinates(rows, vector, p):
    """The tuple of the multiples of the independent rows whose sum is the vector, or None."""
    width = len(rows)
    # One equation for each place: the items of the rows there, and the item of the vector.
    equations = [[row[k] for row in rows] + [c] for k, c in enumerate(vector)]
    solved, pivots = reduced(equations, width + 1, p)
    if width in pivots:
        return None
    return tuple([row[width] for row in solved])


def times(rows, vector, p):
    """The vector of the products of the rows with the vector."""
    return tuple([sum([x * y for x, y in zip(row, vector)]) % p for row in rows])


def before(vector, rows, width, p):
    """The sum of the rows multiplied by the items of the vector."""
    total = [0] * width
    for c, row in zip(vector, rows):
        total = less(total, -c, row, p)
    return tuple(total)


def product(a, b, width, p):
    """The product of two matrices; width is that of b."""
    return tuple([before(row, b, width, p) for row in a])


def eigenspaces(rows, p):
    """The pairs (s, basis), ascending, of all s with vectors v not zero such that v times the matrix is s times v."""
    width = len(rows)
    columns = [[row[k] for row in rows] for k in range(width)]
    found = []
    for s in eigenvalues(rows, p):
        shifted = [list(column) for column in columns]
        for k in range(width):
            shifted[k][k] = shifted[k][k] - s
        basis, _ = reduced(kernel(shifted, width, p), width, p)
        found.append((s, basis))
    return tuple(found)
