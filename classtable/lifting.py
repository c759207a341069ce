"""Characters from modular rows (points 4.4 to 4.6)."""

from classtable.classes import class_numbers, classes, inverse_classes
from classtable.constants import class_sizes
from classtable.cyclo import Cyclo
from classtable.errors import Refused
from classtable.modular import times
from classtable.splitting import modular_rows, root_of
from classtable.whole import inverse_modulo, power_modulo


def _shares(group, p):
    """The inverses of the sizes of the classes modulo p."""
    return [inverse_modulo(h, p) for h in class_sizes(group)]


def _degree(n, shares, opposites, p, row):
    """The degree of the row, by the inverses of the sizes and the numbers of the inverse classes."""
    total = sum([w * row[k] * share for w, k, share in zip(row, opposites, shares)])
    for d in range(1, (p - 1) // 2 + 1):
        if (d * d * total - n) % p == 0:
            return d
    raise Refused("degree")


def degree_of(group, p, row):
    """The degree of a modular row; raises Refused if there is none."""
    return _degree(len(group), _shares(group, p), inverse_classes(group), p, row)


def _scaled(d, shares, p, row):
    """The tuple of the d w_i / h_i modulo p, by the inverses of the h_i."""
    return tuple([d * w * share % p for w, share in zip(row, shares)])


def modular_character(group, p, row):
    """The modular character of a modular row; raises Refused if it has no degree."""
    return _scaled(degree_of(group, p, row), _shares(group, p), p, row)


def _power_classes(group):
    """For each class the tuple of the numbers of the classes of the powers of a member, from the 0th on."""
    numbers = class_numbers(group)
    found = []
    for members in classes(group):
        g = members[0]
        found.append(tuple([numbers[group.power(g, j)] for j in range(group.order_of(g))]))
    return found


def _waves(y, o, p):
    """The rows of the y^(-j k) / o, one row for each k, for a y whose powers modulo p first give 1 at o."""
    powers = [inverse_modulo(o, p)]
    step = inverse_modulo(y, p)
    for _ in range(o - 1):
        powers.append(powers[-1] * step % p)
    return tuple([tuple([powers[j * k % o] for j in range(o)]) for k in range(o)])


def _all_waves(group, p, found):
    """A dict from the orders o of the members of classes to their rows of waves."""
    e = group.exponent()
    z = root_of(p, e)
    return {o: _waves(power_modulo(z, e // o, p), o, p) for o in sorted({len(powers) for powers in found})}


def _multiplicities(p, powers, waves, character):
    """The multiplicities at a class, by the classes of its powers and the waves for as many powers."""
    return times(waves, [character[i] for i in powers], p)


def multiplicities(group, p, character, i):
    """The tuple of the multiplicities of a modular character at the class i."""
    powers = _power_classes(group)[i]
    return _multiplicities(p, powers, _all_waves(group, p, [powers])[len(powers)], character)


def _values(p, found, waves, character):
    """The lifted values, by the classes of the powers of each class, and the waves for each order."""
    return tuple([
        Cyclo(len(powers), _multiplicities(p, powers, waves[len(powers)], character)) for powers in found])


def lifted(group, p, character):
    """The tuple of the lifted values of a modular character, one for each class."""
    found = _power_classes(group)
    return _values(p, found, _all_waves(group, p, found), character)


def characters(group):
    """The tuple of the pairs (d, values) for the modular rows, in their order."""
    p, rows = modular_rows(group)
    shares = _shares(group, p)
    opposites = inverse_classes(group)
    found = _power_classes(group)
    waves = _all_waves(group, p, found)
    pairs = []
    for row in rows:
        d = _degree(len(group), shares, opposites, p, row)
        pairs.append((d, _values(p, found, waves, _scaled(d, shares, p, row))))
    return tuple(pairs)


def central_row(group, d, values):
    """The tuple of the h_i x_i / d of a character with the degree d and the values x_i."""
    return tuple([x.scaled(h).over(d) for h, x in zip(class_sizes(group), values)])
