"""Class functions and their parts (chapter 6)."""

from classtable.classes import classes
from classtable.cyclo import Cyclo, added, of_integer
from classtable.errors import Malformed


class ClassFunction:
    """A class function of `group`: `row` is the tuple of its values at the classes."""

    def __init__(self, group, values, *, known=None):
        found = classes(group) if known is None else known
        if not isinstance(values, (list, tuple)) or len(values) != len(found):
            raise Malformed("there are not as many values as classes")
        if not all([isinstance(x, Cyclo) for x in values]):
            raise Malformed("a value is no Cyclo")
        self.group = group
        self.row = tuple(values)
        self._known = found

    def __add__(self, other):
        if not isinstance(other, ClassFunction):
            return NotImplemented
        _check_equal(self.group, other.group)
        return self._like([x + y for x, y in zip(self.row, other.row)])

    def __sub__(self, other):
        if not isinstance(other, ClassFunction):
            return NotImplemented
        _check_equal(self.group, other.group)
        return self._like([x - y for x, y in zip(self.row, other.row)])

    def __mul__(self, other):
        if not isinstance(other, ClassFunction):
            return NotImplemented
        _check_equal(self.group, other.group)
        return self._like([x * y for x, y in zip(self.row, other.row)])

    def __neg__(self):
        return self._like([-x for x in self.row])

    def __eq__(self, other):
        return isinstance(other, ClassFunction) and self.group == other.group and self.row == other.row

    def __call__(self, x):
        return _value_at(self._known, self.row, x)

    def _like(self, values):
        """The class function of the same group with these values."""
        return ClassFunction(self.group, values, known=self._known)

    def degree(self):
        """The value at the unit."""
        return self.row[0]

    def scaled(self, c):
        """The class function multiplied by the Cyclo c."""
        return self._like([x * c for x in self.row])

    def mirrored(self):
        """The conjugates of the values."""
        return self._like([x.mirrored() for x in self.row])

    def raised(self, k):
        """The k-th power function, for every integer k."""
        powers = [self.group.power(members[0], k) for members in self._known]
        return self._like([_value_at(self._known, self.row, x) for x in powers])

    def inner(self, g):
        """The inner product with the class function g, a Cyclo; raises Malformed if the groups are not equal."""
        _check_equal(self.group, g.group)
        parts = [(x * y.mirrored()).scaled(len(members)) for x, y, members in zip(self.row, g.row, self._known)]
        return added(parts).over(len(self.group))

    def symmetric_square(self):
        """Half the sum of the square and the second power function."""
        return self._like([(x * x + y).over(2) for x, y in zip(self.row, self.raised(2).row)])

    def exterior_square(self):
        """Half the difference of the square and the second power function."""
        return self._like([(x * x - y).over(2) for x, y in zip(self.row, self.raised(2).row)])

    def indicator(self):
        """The inner product of the second power function and the function that is 1 everywhere, a Cyclo."""
        return self.raised(2).inner(self._like([of_integer(1) for _ in self.row]))

    def multiples(self, table):
        """The tuple of the multiples of the rows of the CharacterTable of the group, whose sum the function is."""
        _check_equal(self.group, table.group)
        return tuple([self.inner(self._like(row)) for row in table])

    def is_sum_of_characters(self, table):
        """True if all multiples are integers from 0 on, and not all of them are 0."""
        _check_equal(self.group, table.group)
        # The values of a sum of characters are made of roots of unity of the exponent (point 4.5).
        # Those of another function need not have inner products within reach.
        e = self.group.exponent()
        if not all([e % x.e == 0 for x in self.row]):
            return False
        found = [multiple.whole() for multiple in self.multiples(table)]
        return all([m is not None and m >= 0 for m in found]) and any([m != 0 for m in found])


def _check_equal(one, other):
    """Raises Malformed if the groups are not equal."""
    if one != other:
        raise Malformed("the groups are not equal")


def _value_at(known, row, x):
    """The item of the row for the class, of the known ones, that holds x."""
    places = [i for i, members in enumerate(known) if x in members]
    return row[places[0]]


def everywhere(group, c):
    """The class function with the value c, a Cyclo."""
    found = classes(group)
    return ClassFunction(group, [c for _ in found], known=found)


def character(table, k):
    """The row with the index k of a CharacterTable."""
    return ClassFunction(table.group, table.rows[k])


def combined(table, multiples):
    """The sum of the multiples, a list or tuple of Cyclo, of the rows; raises Malformed if their number is wrong."""
    if len(multiples) != len(table):
        raise Malformed("there are not as many multiples as rows")
    columns = list(zip(*table.rows))
    return ClassFunction(table.group, [added([m * x for m, x in zip(multiples, column)]) for column in columns])


def fixed_points(group, permutations):
    """The class function of the numbers of fixed points, for the two results of from_permutations."""
    found = classes(group)
    return ClassFunction(group, [of_integer(permutations[members[0]].fixed()) for members in found], known=found)
