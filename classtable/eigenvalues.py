"""The eigenvalues of a square matrix A modulo a prime p, without a kernel for each number below p.

A round takes a vector v and then v A, v A A, .. as long as these are no combinations of the vectors
before them, those of earlier rounds included. The combination that ends the round tells a polynomial
f for which v f(A) is one of vectors of earlier rounds. With all these vectors as a basis A has blocks
along its diagonal, one for each round, with nothing to their right, so the eigenvalues of A are the
roots of the polynomials of the rounds.
"""

from classtable.whole import inverse_modulo


def less(row, c, other, p):
    """The row less c times the other one, modulo p."""
    if c == 0:
        return row
    return [(x - c * y) % p for x, y in zip(row, other)]


def _cleared(row, basis, p):
    """The row with 0 at the pivots of the basis, a list of pairs of a pivot and a row with 1 there."""
    for pivot, other in basis:
        row = less(row, row[pivot], other, p)
    return row


def _pivot(row, width):
    """The index of the first item of the vector in the row that is not 0, or None."""
    for at in range(width):
        if row[at] != 0:
            return at
    return None


def _round(start, columns, earlier, p):
    """The pair of the polynomial of the round of a unit vector, and the basis of all rounds up to it."""
    width = len(columns)
    # Behind the vector v g(A) a row has the coefficients of g. The vectors of earlier rounds count as 0 v.
    basis = [(pivot, row[:width] + [0] * (width + 1)) for pivot, row in earlier]
    row = [0] * (2 * width + 1)
    row[start] = 1
    row[width] = 1
    row = _cleared(row, basis, p)
    pivot = _pivot(row, width)
    while pivot is not None:
        unit = inverse_modulo(row[pivot], p)
        row = [c * unit % p for c in row]
        basis.append((pivot, row))
        image = [sum([x * y for x, y in zip(row, column)]) % p for column in columns]
        row = _cleared(image + [0] + row[width:-1], basis, p)
        pivot = _pivot(row, width)
    degree = len(basis) - len(earlier)
    return tuple(row[width:width + degree + 1]), basis


def _is_root(s, polynomial, p):
    """True if the polynomial, the constant first, is 0 at s modulo p."""
    value = 0
    for c in reversed(polynomial):
        value = (value * s + c) % p
    return value == 0


def eigenvalues(rows, p):
    """The ascending list of the s from 0 to p - 1 for which a vector v other than zero times the matrix is s v."""
    columns = [[row[k] % p for row in rows] for k in range(len(rows))]
    polynomials = []
    basis = []
    for start in range(len(rows)):
        polynomial, basis = _round(start, columns, basis, p)
        polynomials.append(polynomial)
    unlike = sorted(set(polynomials))
    return [s for s in range(p) if any([_is_root(s, polynomial, p) for polynomial in unlike])]
