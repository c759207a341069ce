"""Groups of orders from 1 to 60, by their tables of products (points 2.2 and 2.3)."""

from classtable.errors import Malformed, Refused
from classtable.permutation import is_arrangement
from classtable.whole import is_integer, multiple

MOST_ORDER = 60


class Group:
    """A group: the product of x and y is the item y of the row x of `table`."""

    def __init__(self, table):
        if not isinstance(table, (list, tuple)):
            raise Malformed("the table is no list or tuple")
        if len(table) > MOST_ORDER:
            raise Refused("order")
        _check_rows(table)
        rows = tuple([tuple(row) for row in table])
        _check_group(rows)
        self.table = rows
        self._inverses = tuple([row.index(0) for row in rows])

    def __len__(self):
        return len(self.table)

    def __eq__(self, other):
        return isinstance(other, Group) and self.table == other.table

    def product(self, x, y):
        """x y."""
        return self.table[x][y]

    def inverse(self, x):
        """x^-1."""
        return self._inverses[x]

    def power(self, x, k):
        """x^k, for every integer k."""
        result = 0
        for _ in range(k % self.order_of(x)):
            result = self.table[result][x]
        return result

    def order_of(self, x):
        """The least k from 1 on for which x^k is the unit."""
        k = 1
        value = x
        while value != 0:
            value = self.table[value][x]
            k += 1
        return k

    def conjugated(self, x, g):
        """g^-1 x g."""
        return self.table[self._inverses[g]][self.table[x][g]]

    def exponent(self):
        """The least number from 1 on that the orders of all members divide."""
        return multiple([self.order_of(x) for x in range(len(self.table))])

    def is_abelian(self):
        """True if x y = y x for all x and y."""
        return self.table == tuple(zip(*self.table))

    def relabelled(self, images):
        """The group in which x has the number images[x]; raises Malformed if images is no such tuple."""
        many = len(self.table)
        if not isinstance(images, tuple) or len(images) != many or not is_arrangement(images) or images[0] != 0:
            raise Malformed("the images are not all numbers of the group, with the unit first")
        rows = [[0] * many for _ in range(many)]
        for x, row in enumerate(self.table):
            for y, value in enumerate(row):
                rows[images[x]][images[y]] = images[value]
        return Group(rows)


def _check_rows(table):
    """Raises Malformed if the table is not a square of numbers below its length, or is empty."""
    many = len(table)
    if many == 0:
        raise Malformed("the table is empty")
    for row in table:
        if not isinstance(row, (list, tuple)) or len(row) != many:
            raise Malformed("a row is no list or tuple of as many items as there are rows")
        if not all([is_integer(x) and 0 <= x < many for x in row]):
            raise Malformed("an item is no number of the group")


def _check_group(rows):
    """Raises Malformed if the rows are not the products of a group with the unit 0."""
    if list(rows[0]) != list(range(len(rows))) or [row[0] for row in rows] != list(range(len(rows))):
        raise Malformed("0 is not the unit")
    if not all([0 in row for row in rows]):
        raise Malformed("there is no inverse")
    for row in rows:
        for y, xy in enumerate(row):
            # The row of x y has the (x y) z; those of x (y z) are found by the row of y.
            if rows[xy] != tuple([row[yz] for yz in rows[y]]):
                raise Malformed("the products are not associative")


def cyclic(n):
    """The group with the product x + y modulo n; raises Refused if n is not from 1 to 60."""
    if not 1 <= n <= MOST_ORDER:
        raise Refused("order")
    return Group([[(x + y) % n for y in range(n)] for x in range(n)])


def direct(a, b):
    """The group of the pairs (x, y), with the numbers x m + y, m the order of b."""
    m = len(b)
    many = len(a) * m
    if many > MOST_ORDER:
        raise Refused("order")
    rows = []
    for s in range(many):
        pairs = [(a.product(s // m, t // m), b.product(s % m, t % m)) for t in range(many)]
        rows.append([x * m + y for x, y in pairs])
    return Group(rows)


def _closure(generators):
    """The permutations that are products of the generators; raises Refused if there are more than 60.

    All generators are multiplied with the first one met, so unlike numbers of points raise Malformed at once.
    """
    found = []
    seen = set()
    waiting = list(generators)
    while len(waiting) > 0:
        permutation = waiting.pop()
        if permutation.images not in seen:
            seen.add(permutation.images)
            found.append(permutation)
            waiting = waiting + [g * permutation for g in generators]
        if len(found) > MOST_ORDER:
            raise Refused("order")
    return found


def from_permutations(generators):
    """The pair of the group of all products of the generators, and the tuple of its permutations."""
    if len(generators) == 0:
        raise Malformed("there are no generators")
    permutations = tuple(sorted(_closure(generators), key=lambda g: g.images))
    numbers = {g.images: x for x, g in enumerate(permutations)}
    rows = [[numbers[(a * b).images] for b in permutations] for a in permutations]
    return Group(rows), permutations
