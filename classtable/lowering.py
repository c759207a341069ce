"""The least e of a sum of powers of z_e (points 1.3 and 1.4).

A sum of powers of z_e is given here by a vector, the list of the e coefficients of the powers.
Many vectors tell the same number; one of them is the clear one. Let e be the product of the
powers q of its primes p. Then z_e to the k is the product of the z_q to the x, with x the
quotient of k and e / q modulo q, the part of k at p. Powers of z_q with the same x modulo
q / p have the sum 0, so the ones with x below q / p can be told by the others: a vector is
clear if it is 0 at each k with such a part at any p. As many k are left as P_e has a degree,
so there is one clear vector for each number, and two numbers are equal exactly if theirs are.
"""

from classtable.whole import common, inverse_modulo, prime_powers


def folded(e, items):
    """The vector of the sum of the items[k] times z_e to the k, for any number of items."""
    out = [0] * e
    for k, c in enumerate(items):
        out[k % e] = out[k % e] + c
    return out


def _prime_parts(e):
    """The pairs (p, q) of the primes of e, each with its greatest power that divides e."""
    found = []
    for p, k in prime_powers(e):
        q = 1
        for _ in range(k):
            q = q * p
        found.append((p, q))
    return found


def _cleared(e, vector):
    """The clear vector of the same number."""
    out = list(vector)
    for p, q in _prime_parts(e):
        unit = inverse_modulo(e // q, q)
        for k in range(e):
            c = out[k]
            if c != 0 and k * unit % q < q // p:
                for at in range(k, k + e, e // p):
                    out[at % e] = out[at % e] - c
    return out


def _lowered(e, p, vector):
    """The clear vector for e // p of the same number, or None if it is no sum of powers of z_(e // p)."""
    m = e // p
    if m % p == 0:
        if any([c != 0 and k % p != 0 for k, c in enumerate(vector)]):
            return None
        return vector[::p]
    # y_0 is 0 in a clear vector, so the number is 0 - y_1 if the other y_u are equal to it.
    first = _part_at(e, p, vector, 1)
    for u in range(2, p):
        if _part_at(e, p, vector, u) != first:
            return None
    return [-c for c in first]


def _part_at(e, p, vector, u):
    """The vector for m = e // p, coprime to p, of y_u: its item v is the one at m u + p v."""
    start = e // p * u
    return [vector[k % e] for k in range(start, start + e, p)]


def least_form(e, vector):
    """The pair of the least e and a vector for it of the same number."""
    # Exponents with a common divisor need no search.
    shared = common([k for k, c in enumerate(vector) if c != 0] + [e])
    least = e // shared
    clear = _cleared(least, vector[::shared])
    for p, _ in prime_powers(least):
        lower = _lowered(least, p, clear)
        while lower is not None:
            least, clear = least // p, lower
            lower = _lowered(least, p, clear) if least % p == 0 else None
    return least, clear
