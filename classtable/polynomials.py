"""Polynomials with integer coefficients, told by their coefficients, the constant first."""


def stretched(items, p):
    """The polynomial with x^p in the place of x."""
    out = [0] * ((len(items) - 1) * p + 1)
    for k, c in enumerate(items):
        out[k * p] = c
    return tuple(out)


def divided(items, by):
    """The lists of the quotient and of the remainder for a monic polynomial `by`, with len(items) items in all."""
    degree = len(by) - 1
    lower = [(k - degree, c) for k, c in enumerate(by) if c != 0 and k < degree]
    rest = list(items)
    # The first item of each step is left in its place: it is that of the quotient.
    for at in range(len(rest) - 1, degree - 1, -1):
        c = rest[at]
        if c != 0:
            for k, d in lower:
                rest[at + k] = rest[at + k] - c * d
    return rest[degree:], rest[:degree]
