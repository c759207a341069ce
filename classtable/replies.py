"""Replies to lines, and whether told ones are right (points 8.3 and 8.5)."""

from classtable.checker import takes_table
from classtable.classes import classes
from classtable.constants import class_matrix
from classtable.cyclo import of_integer
from classtable.errors import NoText, Refused
from classtable.functions import ClassFunction
from classtable.normal import normal_subgroups
from classtable.sheet import read_line, read_rows, table_text
from classtable.table import character_table, rank


class Reply:
    """A reply to a line: a kind and a text."""

    def __init__(self, kind, text=""):
        self.kind = kind
        self.text = text

    def __eq__(self, other):
        return isinstance(other, Reply) and self.kind == other.kind and self.text == other.text


def _told(names, line):
    """The pair of what the line says and None, or of None and the reply to a line that is refused."""
    try:
        return read_line(names, line), None
    except NoText as fault:
        return None, Reply("error", f"text {fault.at}")
    except Refused as refusal:
        return None, Reply("error", f"refused {refusal.reason}")


def _text_of_classes(group):
    """The orders of the members of the classes, and their sizes."""
    return " ".join([f"{group.order_of(members[0])}:{len(members)}" for members in classes(group)])


def _text_of_constants(group, i, j):
    """The class constants a(i, j, k) for all k."""
    return " ".join([str(a) for a in class_matrix(group, i)[j]])


def _text_of_normal(group):
    """The normal subgroups by the numbers of their classes."""
    found = normal_subgroups(character_table(group))
    return " ".join([",".join([str(i) for i in indexes]) for indexes in found])


def _text_of_parts(group, values):
    """The multiples of the characters of the class function with these values."""
    f = ClassFunction(group, [of_integer(value) for value in values])
    return ", ".join([str(multiple) for multiple in f.multiples(character_table(group))])


def _text_for(word, group, numbers):
    """The text of the reply to a line that asks for something of a group."""
    if word == "classes":
        return _text_of_classes(group)
    if word == "constants":
        return _text_of_constants(group, numbers[0], numbers[1])
    if word == "table":
        return table_text(character_table(group).rows)
    if word == "normal":
        return _text_of_normal(group)
    return _text_of_parts(group, numbers)


def _reply(told):
    """The reply to a line that says this."""
    word = told[0]
    if word == "empty":
        return Reply("done")
    if word in ("perms", "cycle", "pairs"):
        return Reply("group", f"order {len(told[2])}")
    return Reply(word, _text_for(word, told[1], told[2:]))


def reply_to(names, line):
    """The reply to a line, over a dict from names to groups."""
    told, refusal = _told(names, line)
    return _reply(told) if refusal is None else refusal


def names_after(names, line):
    """The definitions that a line leaves behind these ones, a new dict."""
    told, _ = _told(names, line)
    found = dict(names)
    if told is not None and told[0] in ("perms", "cycle", "pairs"):
        found[told[1]] = told[2]
    return found


def _is_table(group, reply):
    """True if the reply tells the character table of the group, in its order; no rows are searched for."""
    if reply.kind != "table":
        return False
    try:
        rows = read_rows(reply.text)
    except NoText:
        return False
    if not all([len(row) > 0 for row in rows]):
        return False
    degrees = tuple([row[0].whole() for row in rows])
    if not takes_table(group, ("table", classes(group), degrees, rows)):
        return False
    return list(rows) == sorted(rows, key=rank)


def is_right(names, entry):
    """True if the entry is right over a dict from names to groups (point 8.5); False for every other value."""
    if not isinstance(entry, tuple) or len(entry) != 2 or not isinstance(entry[1], Reply):
        return False
    line, reply = entry
    told, refusal = _told(names, line)
    if refusal is not None:
        return reply == refusal
    if told[0] == "table":
        return _is_table(told[1], reply)
    return reply == _reply(told)
