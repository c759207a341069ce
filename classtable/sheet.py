"""Lines of worksheets, and the texts of tables (points 8.1 to 8.3)."""

from classtable.classes import classes
from classtable.cyclo import read_cyclo
from classtable.errors import NoText, Refused
from classtable.group import cyclic, direct, from_permutations
from classtable.permutation import MOST_POINTS, read_permutation
from classtable.texts import is_word, number_of

MOST_CHARACTERS = 2000
MOST_LETTERS = 8
MOST_NUMBER = 999999999

# Told by its code: no string of the package has the percent sign itself.
_PERCENT = 37

# For each first word: how many names there are, and how many parts behind them, at least and at most.
_FORMS = {
    "perms": (1, 2, 5),
    "cycle": (1, 1, 1),
    "pairs": (3, 0, 0),
    "classes": (1, 0, 0),
    "constants": (1, 2, 2),
    "table": (1, 0, 0),
    "normal": (1, 0, 0),
    "parts": (1, 1, 2000),
}


def _check_characters(line):
    """Raises NoText if the value is no string of the characters, and of the length, of point 8.1."""
    if not isinstance(line, str) or len(line) > MOST_CHARACTERS:
        raise NoText(0)
    if not all([" " <= c <= "~" and ord(c) != _PERCENT for c in line]):
        raise NoText(0)


def _number(word, part):
    """The number that a part of a line tells; raises NoText if it is none that may stand behind the first word."""
    n = number_of(part)
    if n is None or abs(n) > MOST_NUMBER or (n < 0 and word != "parts"):
        raise NoText(0)
    return n


def _formed(line):
    """The first word of a line, the names, and the numbers behind them; raises NoText if it has none of the forms.

    The texts of permutations are left out.
    """
    word, _, rest = line.strip(" ").partition(" ")
    parts = [part.strip(" ") for part in rest.split(";")]
    if word not in _FORMS:
        raise NoText(0)
    many, least, most = _FORMS[word]
    names, others = parts[:many], parts[many:]
    if len(names) < many or not least <= len(others) <= most:
        raise NoText(0)
    if not all([is_word(name, MOST_LETTERS) for name in names]):
        raise NoText(0)
    told = others[:1] if word == "perms" else others
    return word, names, [_number(word, part) for part in told]


def _places(line):
    """The pairs (at, text) of the permutations in a `perms` line: the index of the first character, and the text."""
    pieces = line.split(";")
    found = []
    start = len(pieces[0]) + len(pieces[1]) + 2
    for piece in pieces[2:]:
        found.append((start + len(piece) - len(piece.lstrip(" ")), piece.strip(" ")))
        start = start + len(piece) + 1
    return found


def _permutation(at, text, m):
    """The permutation of m points with the text; raises NoText(at) if there is none."""
    try:
        return read_permutation(text, m)
    except NoText:
        raise NoText(at)


def _generated(line, m):
    """The group of the permutations of m points in a `perms` line."""
    if not 1 <= m <= MOST_POINTS:
        raise Refused("points")
    group, _ = from_permutations(tuple([_permutation(at, text, m) for at, text in _places(line)]))
    return group


def _named(names, name):
    """The group with the name; raises Refused if it is not defined."""
    if name not in names:
        raise Refused("name")
    return names[name]


def _defined(names, line, word, told, numbers):
    """The group that a `perms`, `cycle` or `pairs` line defines, by its names and its numbers."""
    if word == "perms":
        return _generated(line, numbers[0])
    if word == "cycle":
        return cyclic(numbers[0])
    return direct(_named(names, told[1]), _named(names, told[2]))


def _check_classes(group, word, numbers):
    """Raises Refused if a number is that of no class, or if there are not as many values as classes."""
    many = len(classes(group))
    if word == "constants" and max(numbers) >= many:
        raise Refused("class")
    if word == "parts" and len(numbers) != many:
        raise Refused("class")


def read_line(names, line):
    """What a line says, over a dict from names to groups: a tuple that begins with the first word."""
    _check_characters(line)
    if line.strip(" ") == "" or line.strip(" ").startswith("#"):
        return ("empty",)
    word, told, numbers = _formed(line)
    if word in ("perms", "cycle", "pairs"):
        return (word, told[0], _defined(names, line, word, told, numbers))
    group = _named(names, told[0])
    _check_classes(group, word, numbers)
    return (word, group, *numbers)


def table_text(rows):
    """The text of a tuple of tuples of Cyclo."""
    return " | ".join([", ".join([str(value) for value in row]) for row in rows])


def _read_row(text):
    """The tuple of Cyclo with this text; that without values for the empty text."""
    if text == "":
        return ()
    return tuple([read_cyclo(word) for word in text.split(", ")])


def read_rows(text):
    """The tuple of tuples of Cyclo with this text; raises NoText(0) if there is none, for every value."""
    if not isinstance(text, str):
        raise NoText(0)
    if text == "":
        return ()
    return tuple([_read_row(part) for part in text.split(" | ")])
