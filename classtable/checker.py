"""The checker of papers of character tables (points 5.6 and 5.7): it counts, multiplies and compares."""

from classtable.classes import classes
from classtable.cyclo import Cyclo, added, of_integer
from classtable.whole import is_integer


def is_class_list(group, value):
    """True if the value is a tuple of the classes, each once, that of the unit first; False for every other value."""
    if not isinstance(value, tuple) or len(value) == 0:
        return False
    for members in value:
        if not isinstance(members, tuple) or not all([is_integer(x) for x in members]):
            return False
    return value[0] == (0,) and sorted(value) == sorted(classes(group))


def _are_degrees(value, many):
    """True if the value is a tuple of so many integers from 1 on."""
    return isinstance(value, tuple) and len(value) == many and all([is_integer(d) and d >= 1 for d in value])


def _is_row(value, many):
    """True if the value is a tuple of so many Cyclo."""
    return isinstance(value, tuple) and len(value) == many and all([isinstance(x, Cyclo) for x in value])


def _are_rows(value, many):
    """True if the value is a tuple of so many unlike rows of so many Cyclo."""
    if not isinstance(value, tuple) or len(value) != many or not all([_is_row(row, many) for row in value]):
        return False
    return len({tuple([x.key() for x in row]) for row in value}) == many


def _has_form(group, paper):
    """True if the value has the form of a paper, and the points 1, 2 and 4 hold."""
    if not isinstance(paper, tuple) or len(paper) != 4:
        return False
    word, found, degrees, values = paper
    if word != "table" or not is_class_list(group, found):
        return False
    return _are_degrees(degrees, len(found)) and _are_rows(values, len(found))


def _numbers(found):
    """A dict from each member to the number of its class in the order of the paper."""
    return {x: i for i, members in enumerate(found) for x in members}


def _constants(group, found):
    """A dict from the pairs (i, j) of classes to the lists of the pairs (k, a(i, j, k)), without those with 0."""
    numbers = _numbers(found)
    counts = {}
    for x in range(len(group)):
        for y in range(len(group)):
            place = (numbers[x], numbers[y], numbers[group.product(x, y)])
            counts[place] = counts.get(place, 0) + 1
    constants = {}
    for (i, j, k), many in counts.items():
        # Each of the h_k products in the class k is met equally often.
        constants.setdefault((i, j), []).append((k, many // len(found[k])))
    return constants


def _are_central(rows, constants):
    """True if the products of the numbers in each row are the sums that the constants say.

    The rows of a table are made of few numbers, so products and sums of the same ones are kept.
    """
    marks = {}
    products = {}
    sums = {}
    for row in rows:
        told = [marks.setdefault(w.key(), len(marks)) for w in row]
        for (i, j), terms in constants.items():
            pair = (told[i], told[j])
            if pair not in products:
                products[pair] = row[i] * row[j]
            parts = tuple([(told[k], a) for k, a in terms])
            if parts not in sums:
                sums[parts] = added([row[k].scaled(a) for k, a in terms])
            if products[pair] != sums[parts]:
                return False
    return True


def _have_degrees(group, found, degrees, rows):
    """True if the square of each degree times the sum of the w_i w_i' / h_i of its row is the order."""
    numbers = _numbers(found)
    opposites = [numbers[group.inverse(members[0])] for members in found]
    order = of_integer(len(group))
    for d, row in zip(degrees, rows):
        parts = [(w * row[k]).over(len(members)) for w, k, members in zip(row, opposites, found)]
        if added(parts).scaled(d * d) != order:
            return False
    return True


def takes_table(group, paper):
    """True if the value is a paper of the character table of the group; False for every other value."""
    if not _has_form(group, paper):
        return False
    _, found, degrees, values = paper
    # The values of characters are sums of such roots of unity (point 4.5); without others in the way no
    # product is out of reach.
    e = group.exponent()
    if not all([e % x.e == 0 for row in values for x in row]):
        return False
    if not all([row[0] == of_integer(d) for d, row in zip(degrees, values)]):
        return False
    rows = []
    for d, row in zip(degrees, values):
        rows.append([x.scaled(len(members)).over(d) for x, members in zip(row, found)])
    return _are_central(rows, _constants(group, found)) and _have_degrees(group, found, degrees, rows)
