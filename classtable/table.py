"""Character tables (points 5.1 to 5.5)."""

from classtable.classes import class_numbers
from classtable.constants import class_matrices
from classtable.cyclo import added, of_integer
from classtable.lifting import central_row, characters


class CharacterTable:
    """The characters of a group: `rows` are the tuples of their values, in the order of point 5.4."""

    def __init__(self, group, rows):
        self.group = group
        self.rows = rows

    def __len__(self):
        return len(self.rows)

    def __iter__(self):
        return iter(self.rows)

    def __eq__(self, other):
        return isinstance(other, CharacterTable) and self.group == other.group and self.rows == other.rows

    def degrees(self):
        """The tuple of the degrees, integers."""
        return tuple([row[0].whole() for row in self.rows])

    def value(self, k, x):
        """The value of the row with the index k at the member x."""
        return self.rows[k][class_numbers(self.group)[x]]

    def central(self, k):
        """The central row of the row with the index k."""
        row = self.rows[k]
        return central_row(self.group, row[0].whole(), row)


def rank(row):
    """What the row of a character is sorted by (point 5.4)."""
    one = of_integer(1)
    trivial = all([x == one for x in row])
    return (0 if trivial else 1, row[0].whole(), tuple([x.key() for x in row]))


def character_table(group):
    """The CharacterTable of the group."""
    return CharacterTable(group, tuple(sorted([values for _, values in characters(group)], key=rank)))


def is_central_row(group, row):
    """True if the tuple of Cyclo multiplies as the class constants say, with 1 at the unit."""
    matrices = class_matrices(group)
    if len(row) != len(matrices) or row[0] != of_integer(1):
        return False
    # All central rows are made of roots of unity of the exponent (point 4.5). No product of such
    # numbers is out of reach, those of others could be.
    e = group.exponent()
    if not all([e % w.e == 0 for w in row]):
        return False
    for i, matrix in enumerate(matrices):
        # a(i, j, k) is a(j, i, k), so no j below i is needed.
        for j in range(i, len(row)):
            if row[i] * row[j] != added([row[k].scaled(a) for k, a in enumerate(matrix[j]) if a != 0]):
                return False
    return True
