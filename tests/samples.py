"""Groups for the tests, by tables that are made here without the program's own constructions."""

from itertools import permutations as arrangements

from classtable.group import Group


def table_of(members, multiply):
    """The table of a list of values, the unit first."""
    return [[members.index(multiply(a, b)) for b in members] for a in members]


def cyclic_table(n):
    return [[(x + y) % n for y in range(n)] for x in range(n)]


def pairs_table(a, b):
    members = [(x, y) for x in range(len(a)) for y in range(len(b))]
    return table_of(members, lambda s, t: (a[s[0]][t[0]], b[s[1]][t[1]]))


def composed(a, b):
    return tuple(a[k] for k in b)


def is_even(images):
    return sum(images[i] > images[j] for i in range(len(images)) for j in range(i, len(images))) % 2 == 0


def symmetric_table(m):
    return table_of(sorted(arrangements(range(m))), composed)


def alternating_table(m):
    return table_of([a for a in sorted(arrangements(range(m))) if is_even(a)], composed)


def dihedral_table(n):
    """(k, s): k steps of turning, behind a mirroring if s is 1."""
    members = [(k, s) for s in (0, 1) for k in range(n)]
    return table_of(members, lambda a, b: ((a[0] + (-b[0] if a[1] else b[0])) % n, (a[1] + b[1]) % 2))


def quaternion_table():
    """1, i, j, k as 0 to 3, with a sign."""
    units = {(1, 2): (3, 0), (2, 3): (1, 0), (3, 1): (2, 0), (2, 1): (3, 1), (3, 2): (1, 1), (1, 3): (2, 1)}

    def multiply(a, b):
        (u, s), (v, t) = a, b
        if u == 0 or v == 0:
            return (u + v, (s + t) % 2)
        if u == v:
            return (0, (s + t + 1) % 2)
        w, sign = units[u, v]
        return (w, (s + t + sign) % 2)

    return table_of([(u, s) for u in range(4) for s in (0, 1)], multiply)


TABLES = {
    "trivial": cyclic_table(1),
    "two": cyclic_table(2),
    "six": cyclic_table(6),
    "seven": cyclic_table(7),
    "four-group": pairs_table(cyclic_table(2), cyclic_table(2)),
    "mixed": pairs_table(cyclic_table(2), cyclic_table(4)),
    "symmetric3": symmetric_table(3),
    "symmetric4": symmetric_table(4),
    "alternating4": alternating_table(4),
    "alternating5": alternating_table(5),
    "dihedral4": dihedral_table(4),
    "dihedral5": dihedral_table(5),
    "dihedral6": dihedral_table(6),
    "quaternion": quaternion_table(),
    "three by symmetric3": pairs_table(cyclic_table(3), symmetric_table(3)),
}

GROUPS = {name: Group(table) for name, table in TABLES.items()}

# Those for which a test may walk through all triples, or all sets of members.
SMALL = {name: group for name, group in GROUPS.items() if len(group) <= 24}
TINY = {name: group for name, group in GROUPS.items() if len(group) <= 8}
