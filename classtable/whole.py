"""Whole numbers: divisors, primes, roots, and powers modulo a number."""

from math import gcd, isqrt, lcm

from classtable.errors import ZeroDivisor

# A number below _PROVED that passes the strong test for all of these bases is a prime
# (Sorenson and Webster, Strong pseudoprimes to twelve prime bases, 2015).
_BASES = (2, 3, 5, 7, 11, 13, 17, 19, 23, 29, 31, 37, 41)
_PROVED = 3317044064679887385961981

# Up to here, trying divisors is faster than the strong test.
_SMALL = 1000000


def is_integer(value):
    """True if the value is an integer and not True or False."""
    return isinstance(value, int) and not isinstance(value, bool)


def common(numbers):
    """The greatest common divisor, 0 if all numbers are 0 or there are none."""
    found = 0
    for n in numbers:
        found = gcd(found, n)
    return found


def multiple(numbers):
    """The least common multiple of positive integers, 1 if there are none."""
    found = 1
    for n in numbers:
        found = lcm(found, n)
    return found


def _divisor_from(n, start):
    """The least divisor of n from start on, for an n without divisors from 2 to start - 1; n if it is a prime."""
    k = start
    while k * k <= n:
        if n % k == 0:
            return k
        k += 1
    return n


def _passes(n, base):
    """True if n, above the base, passes the strong test for it, as every prime does."""
    odd = n - 1
    halvings = 0
    while odd % 2 == 0:
        odd = odd // 2
        halvings += 1
    value = power_modulo(base, odd, n)
    if value == 1:
        return True
    for _ in range(halvings):
        if value == n - 1:
            return True
        value = value * value % n
    return False


def _generator_exponents(n):
    """The exponents that tell whether all n - 1 powers of a number modulo n, up to the first 1, are unlike.

    They are fewer exactly if a power with an exponent (n - 1) / q, q a prime, is already 1.
    """
    return [(n - 1) // q for q, _ in prime_powers(n - 1)]


def _has_generator(n):
    """True if the powers of some number modulo n are n - 1 unlike ones: that is so exactly if n is a prime."""
    exponents = _generator_exponents(n)
    g = 2
    while power_modulo(g, n - 1, n) == 1:
        if all([power_modulo(g, k, n) != 1 for k in exponents]):
            return True
        g += 1
    return False


def is_prime(n):
    """True if the integer n is a prime number."""
    if n < _SMALL:
        return n > 1 and _divisor_from(n, 2) == n
    for base in _BASES:
        if not _passes(n, base):
            return False
    return n < _PROVED or _has_generator(n)


def prime_powers(n):
    """The tuple of pairs (p, k), ascending, with n the product of the p^k."""
    found = []
    rest = n
    p = 2
    while rest > 1:
        if rest > _SMALL and is_prime(rest):
            p = rest
        else:
            p = _divisor_from(rest, p)
        k = 0
        while rest % p == 0:
            rest = rest // p
            k += 1
        found.append((p, k))
    return tuple(found)


def divisors(n):
    """The tuple of the positive divisors of n, ascending."""
    found = [1]
    for p, k in prime_powers(n):
        layer = list(found)
        for _ in range(k):
            layer = [d * p for d in layer]
            found = found + layer
    return tuple(sorted(found))


def coprime_count(n):
    """How many of the numbers from 1 to n are coprime to n."""
    count = n
    for p, _ in prime_powers(n):
        count = count // p * (p - 1)
    return count


def root_floor(n):
    """The greatest integer whose square is at most n, for n from 0 on."""
    return isqrt(n)


def exact_root(n):
    """The integer from 0 on whose square is n, or None."""
    if n < 0:
        return None
    root = isqrt(n)
    return root if root * root == n else None


def power_modulo(a, k, p):
    """a^k modulo p, for k from 0 on."""
    result = 1 % p
    square = a % p
    rest = k
    while rest > 0:
        if rest % 2 == 1:
            result = result * square % p
        square = square * square % p
        rest = rest // 2
    return result


def inverse_modulo(a, p):
    """The inverse of a modulo p; raises ZeroDivisor if a and p are not coprime."""
    # Each of the numbers old and new is its factor (old_factor, new_factor) times a, modulo p.
    old, new = p, a % p
    old_factor, new_factor = 0, 1
    while new != 0:
        times = old // new
        old, new = new, old - times * new
        old_factor, new_factor = new_factor, old_factor - times * new_factor
    if old != 1:
        raise ZeroDivisor("there is no inverse")
    return old_factor % p


def generator_modulo(p):
    """The least integer from 1 on whose powers modulo the prime p are all numbers from 1 to p - 1."""
    exponents = _generator_exponents(p)
    g = 1
    while any([power_modulo(g, k, p) == 1 for k in exponents]):
        g += 1
    return g


def prime_above(e, bound):
    """The least prime p greater than bound with p - 1 divisible by e."""
    p = 1 + (max(bound, 1) - 1) // e * e + e
    while not is_prime(p):
        p = p + e
    return p
