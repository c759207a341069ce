"""Sums of rational multiples of roots of unity, each in one form."""

from classtable.errors import Malformed, NoText, ZeroDivisor
from classtable.lowering import folded, least_form
from classtable.polynomials import divided, stretched
from classtable.texts import digits, number_of
from classtable.whole import common, is_integer, multiple, prime_powers

MOST_E = 5000


def cyclotomic(e):
    """The tuple of the coefficients of the e-th cyclotomic polynomial, the constant first."""
    found = (-1, 1)
    for p, k in prime_powers(e):
        quotient, _ = divided(stretched(found, p), found)
        found = tuple(quotient)
        for _ in range(k - 1):
            found = stretched(found, p)
    return found


class Cyclo:
    """The sum of the items[k] (z_e)^k divided by low, in the one form of point 1.3."""

    def __init__(self, e, items, low=1):
        _check_e(e)
        _check_items(items, low)
        least, vector = least_form(e, folded(e, items))
        _, parts = divided(vector, cyclotomic(least))
        shared = common([low] + parts)
        if low < 0:
            shared = -shared
        self.e = least
        self.parts = tuple([c // shared for c in parts])
        self.low = low // shared

    def __add__(self, other):
        if not isinstance(other, Cyclo):
            return NotImplemented
        return _sum(self, other, 1)

    def __sub__(self, other):
        if not isinstance(other, Cyclo):
            return NotImplemented
        return _sum(self, other, -1)

    def __mul__(self, other):
        if not isinstance(other, Cyclo):
            return NotImplemented
        e = _joint(self, other)
        out = [0] * e
        others = _terms(other, e)
        for j, c in _terms(self, e):
            for k, d in others:
                at = (j + k) % e
                out[at] = out[at] + c * d
        return Cyclo(e, out, self.low * other.low)

    def __neg__(self):
        return self.scaled(-1)

    def __eq__(self, other):
        return (isinstance(other, Cyclo) and self.e == other.e
                and self.parts == other.parts and self.low == other.low)

    def __str__(self):
        return str(_text_of(self.e, self.parts, self.low))

    def key(self):
        """The tuple (e, items, low)."""
        return (self.e, self.parts, self.low)

    def over(self, n):
        """The number divided by an integer; raises ZeroDivisor for 0."""
        return Cyclo(self.e, self.parts, self.low * n)

    def scaled(self, n):
        """The number multiplied by an integer."""
        return Cyclo(self.e, [c * n for c in self.parts], self.low)

    def power(self, k):
        """The k-th power, k from 0 on."""
        result = of_integer(1)
        square = self
        rest = k
        while rest > 0:
            if rest % 2 == 1:
                result = result * square
            rest = rest // 2
            if rest > 0:
                square = square * square
        return result

    def mirrored(self):
        """The conjugate."""
        return self.image(-1)

    def image(self, k):
        """The k-th Galois image; raises Malformed if k is no integer or not coprime to e."""
        if not is_integer(k) or common([k, self.e]) != 1:
            raise Malformed("a Galois image needs a number coprime to e")
        out = [0] * self.e
        for j, c in enumerate(self.parts):
            out[j * k % self.e] = c
        return Cyclo(self.e, out, self.low)

    def norm_square(self):
        """The number times its conjugate."""
        return self * self.mirrored()

    def is_zero(self):
        """True if the number is 0."""
        return self.parts == (0,)

    def rational(self):
        """The pair (n, d) in lowest terms, d from 1 on, or None if the number is not rational."""
        return (self.parts[0], self.low) if self.e == 1 else None

    def whole(self):
        """The integer that the number is, or None."""
        return self.parts[0] if self.e == 1 and self.low == 1 else None


def _check_e(e):
    """Raises Malformed if e is no integer from 1 to 5000."""
    if not is_integer(e) or not 1 <= e <= MOST_E:
        raise Malformed("e is no integer from 1 to 5000")


def _check_items(items, low):
    """Raises Malformed if an item or low is no integer, ZeroDivisor if low is 0."""
    if not isinstance(items, (list, tuple)) or not all([is_integer(c) for c in items]):
        raise Malformed("the items are not a list or tuple of integers")
    if not is_integer(low):
        raise Malformed("low is no integer")
    if low == 0:
        raise ZeroDivisor("low is 0")


def _joint(a, b):
    """The least common multiple of both e; raises Malformed if it is above 5000."""
    e = multiple([a.e, b.e])
    _check_e(e)
    return e


def _terms(number, e):
    """The pairs (k, c) of the multiples c of powers (z_e)^k, c not 0, whose sum is low times the number."""
    step = e // number.e
    return [(k * step, c) for k, c in enumerate(number.parts) if c != 0]


def _sum(a, b, sign):
    """a plus sign times b."""
    e = _joint(a, b)
    out = [0] * e
    for k, c in _terms(a, e):
        out[k] = c * b.low
    for k, c in _terms(b, e):
        out[k] = out[k] + c * a.low * sign
    return Cyclo(e, out, a.low * b.low)


def _text_of(e, parts, low):
    """The text of the number with this form (point 1.6)."""
    head = "" if e == 1 else f"E{e}:"
    middle = ",".join([digits(c) for c in parts])
    tail = "" if low == 1 else f"/{digits(low)}"
    return f"{head}{middle}{tail}"


def root(e, k=1):
    """(z_e)^k, for every integer k."""
    _check_e(e)
    return Cyclo(e, [0] * (k % e) + [1])


def of_integer(n):
    """The integer n as a Cyclo."""
    return Cyclo(1, (n,))


def added(numbers):
    """The sum of a list or tuple of Cyclo, from the left, 0 of none."""
    total = of_integer(0)
    for number in numbers:
        total = total + number
    return total


def _told(text):
    """The number that a text of this kind tells, also one that is not of the one form, or None."""
    top, slash, bottom = text.partition("/")
    low = number_of(bottom) if slash == "/" else 1
    e = 1
    if top.startswith("E"):
        head, _, top = top[1:].partition(":")
        e = number_of(head)
    items = [number_of(word) for word in top.split(",")]
    if None in items or e is None or low is None:
        return None
    if not 1 <= e <= MOST_E or low == 0:
        return None
    return Cyclo(e, items, low)


def read_cyclo(text):
    """The Cyclo with this text; raises NoText(0) if there is none, for every value."""
    if not isinstance(text, str):
        raise NoText(0)
    number = _told(text)
    if number is None or str(number) != text:
        raise NoText(0)
    return number
