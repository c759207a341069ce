import unittest
from math import gcd

from classtable.errors import ZeroDivisor
from classtable.whole import (
    common, coprime_count, divisors, exact_root, generator_modulo, inverse_modulo, is_integer, is_prime,
    multiple, power_modulo, prime_above, prime_powers, root_floor)


def primes_below(bound):
    return [n for n in range(2, bound) if all(n % k for k in range(2, n))]


PRIMES = primes_below(400)


class Integers(unittest.TestCase):
    def test_integers(self):
        for value in (0, 1, -1, 7, -(10 ** 30), 2 ** 5000):
            self.assertIs(is_integer(value), True)

    def test_others(self):
        for value in (True, False, None, "1", "", [], (1,), [1], object()):
            self.assertIs(is_integer(value), False)


class Divisors(unittest.TestCase):
    def test_common_of_pairs(self):
        for a in range(1, 30):
            for b in range(1, 30):
                self.assertEqual(common([a, b]), max(d for d in range(1, 30) if a % d == 0 and b % d == 0))

    def test_common_at_its_edges(self):
        self.assertEqual(common([]), 0)
        self.assertEqual(common(()), 0)
        self.assertEqual(common([0, 0, 0]), 0)
        self.assertEqual(common((0,)), 0)
        self.assertEqual(common([0, 12, 0, 18]), 6)
        self.assertEqual(common((-12, 18)), 6)
        self.assertEqual(common([-5]), 5)
        self.assertEqual(common([0, -4]), 4)
        self.assertEqual(common((1, 0)), 1)

    def test_common_of_many(self):
        numbers = [60, 84, 132]
        self.assertEqual(common(numbers), 12)
        self.assertEqual(common(tuple(numbers)), 12)
        self.assertEqual(numbers, [60, 84, 132])

    def test_multiple_of_pairs(self):
        for a in range(1, 25):
            for b in range(1, 25):
                least = min(m for m in range(1, 601) if m % a == 0 and m % b == 0)
                self.assertEqual(multiple([a, b]), least)

    def test_multiple_at_its_edges(self):
        self.assertEqual(multiple([]), 1)
        self.assertEqual(multiple(()), 1)
        self.assertEqual(multiple((1,)), 1)
        self.assertEqual(multiple((7,)), 7)
        self.assertEqual(multiple([1, 2, 3, 4, 5, 6]), 60)

    def test_divisors(self):
        for n in range(1, 400):
            self.assertEqual(divisors(n), tuple(d for d in range(1, n + 1) if n % d == 0))

    def test_coprime_count(self):
        for n in range(1, 400):
            self.assertEqual(coprime_count(n), len([k for k in range(1, n + 1) if gcd(k, n) == 1]))


class Primes(unittest.TestCase):
    def test_is_prime_by_trial(self):
        for n in range(-20, 400):
            self.assertIs(is_prime(n), n in PRIMES)

    def test_is_prime_beyond_small_numbers(self):
        self.assertIs(is_prime(10 ** 6 + 3), True)
        self.assertIs(is_prime(2 ** 31 - 1), True)
        self.assertIs(is_prime(2 ** 61 - 1), True)
        self.assertIs(is_prime(10 ** 18 + 9), True)
        for n in (10 ** 6, 1000003 ** 2, 1000003 * 1000033, 2 ** 61 + 1, 2 ** 67 - 1, 2 ** 4000 + 1, -(10 ** 30)):
            self.assertIs(is_prime(n), False)

    def test_is_prime_for_numbers_that_pass_weaker_tests(self):
        for n in (561, 2047, 1373653, 3215031751, 3825123056546413051, 318665857834031151167461):
            self.assertIs(is_prime(n), False)

    def test_is_prime_beyond_what_a_few_bases_prove(self):
        for n in (2 ** 89 - 1, 2 ** 127 - 1):
            self.assertIs(is_prime(n), True)
        # the least number that passes the strong test for the first 13 primes
        self.assertIs(is_prime(3317044064679887385961981), False)
        self.assertIs(is_prime((2 ** 61 - 1) * (2 ** 89 - 1)), False)

    def test_is_prime_above_one_million_agrees_with_trial(self):
        for n in range(10 ** 6 - 50, 10 ** 6 + 150):
            self.assertIs(is_prime(n), all(n % k for k in range(2, 1001)), n)

    def test_prime_powers(self):
        for n in range(1, 1500):
            pairs = prime_powers(n)
            self.assertIsInstance(pairs, tuple)
            self.assertEqual(sorted(pairs), list(pairs))
            self.assertEqual(len({p for p, _ in pairs}), len(pairs))
            left = 1
            for p, k in pairs:
                self.assertTrue(k >= 1 and all(p % d for d in range(2, p)) and p > 1)
                left *= p ** k
            self.assertEqual(left, n)

    def test_prime_powers_at_its_edges(self):
        self.assertEqual(prime_powers(1), ())
        self.assertEqual(prime_powers(2), ((2, 1),))
        self.assertEqual(prime_powers(2 ** 200), ((2, 200),))
        self.assertEqual(prime_powers(360), ((2, 3), (3, 2), (5, 1)))
        self.assertEqual(prime_powers(2 * (2 ** 61 - 1)), ((2, 1), (2 ** 61 - 1, 1)))
        self.assertEqual(prime_powers(3 * 1000003 ** 2), ((3, 1), (1000003, 2)))

    def test_prime_above(self):
        for e in range(1, 13):
            for bound in range(-3, 60):
                least = min(p for p in PRIMES if p > bound and (p - 1) % e == 0)
                self.assertEqual(prime_above(e, bound), least, (e, bound))

    def test_prime_above_is_above_its_bound(self):
        self.assertEqual(prime_above(4, 12), 13)
        self.assertEqual(prime_above(4, 13), 17)
        self.assertEqual(prime_above(1, 2), 3)
        self.assertEqual(prime_above(1, 1), 2)
        self.assertEqual(prime_above(1, -5), 2)
        self.assertEqual(prime_above(60, 61), 181)


class Roots(unittest.TestCase):
    def test_root_floor(self):
        for n in range(500):
            self.assertEqual(root_floor(n), max(k for k in range(n + 1) if k * k <= n))

    def test_exact_root(self):
        squares = {k * k: k for k in range(30)}
        for n in range(-50, 500):
            self.assertEqual(exact_root(n), squares.get(n))

    def test_many_thousand_bits(self):
        k = 3 ** 7000 + 1
        self.assertEqual(root_floor(k * k), k)
        self.assertEqual(root_floor(k * k - 1), k - 1)
        self.assertEqual(root_floor(k * k + 2 * k), k)
        self.assertEqual(exact_root(k * k), k)
        self.assertIsNone(exact_root(k * k + 1))
        self.assertIsNone(exact_root(k * k - 1))
        self.assertIsNone(exact_root(-k * k))


class Modulo(unittest.TestCase):
    def test_power_modulo(self):
        for p in range(1, 13):
            for a in range(-8, 14):
                for k in range(9):
                    self.assertEqual(power_modulo(a, k, p), a ** k % p, (a, k, p))

    def test_power_modulo_at_its_edges(self):
        self.assertEqual(power_modulo(0, 0, 7), 1)
        self.assertEqual(power_modulo(5, 0, 1), 0)
        self.assertEqual(power_modulo(5, 3, 1), 0)
        self.assertEqual(power_modulo(3, 10 ** 40, 10 ** 9 + 7), pow(3, 10 ** 40, 10 ** 9 + 7))

    def test_inverse_modulo(self):
        for p in range(1, 40):
            for a in range(-45, 90):
                if gcd(a, p) == 1:
                    b = inverse_modulo(a, p)
                    self.assertTrue(0 <= b < p and (a * b - 1) % p == 0, (a, p))
                else:
                    with self.assertRaises(ZeroDivisor):
                        inverse_modulo(a, p)

    def test_inverse_modulo_at_its_edges(self):
        self.assertEqual(inverse_modulo(0, 1), 0)
        self.assertEqual(inverse_modulo(1, 2), 1)
        with self.assertRaises(ZeroDivisor):
            inverse_modulo(0, 7)
        with self.assertRaises(ZeroDivisor):
            inverse_modulo(14, 7)

    def test_generator_modulo(self):
        self.assertEqual(generator_modulo(2), 1)
        self.assertEqual(generator_modulo(3), 2)
        self.assertEqual(generator_modulo(41), 6)
        for p in PRIMES[:60]:
            full = list(range(1, p))
            least = min(g for g in range(1, p) if sorted({pow(g, k, p) for k in range(p - 1)}) == full)
            self.assertEqual(generator_modulo(p), least, p)


if __name__ == "__main__":
    unittest.main()
