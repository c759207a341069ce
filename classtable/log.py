"""The written form of logs (point 8.6), and the first entry of one that is not right (point 8.5)."""

from classtable.errors import Malformed, NoText
from classtable.replies import Reply, is_right, names_after
from classtable.texts import is_word

MOST_KIND = 12


def _is_row(value):
    """True if the value is a string without a line feed."""
    return isinstance(value, str) and "\n" not in value


def _is_entry(value):
    """True if the value is an entry that has a written form."""
    if not isinstance(value, tuple) or len(value) != 2 or not _is_row(value[0]):
        return False
    reply = value[1]
    return isinstance(reply, Reply) and is_word(reply.kind, MOST_KIND) and _is_row(reply.text)


def write_log(entries):
    """The written form of a list of entries; raises Malformed if an item has none."""
    if not all([_is_entry(entry) for entry in entries]):
        raise Malformed("an entry has no written form")
    return "".join([f"> {line}\n= {reply.kind} {reply.text}\n" for line, reply in entries])


def _read_reply(row):
    """The reply in the second line of an entry, or None."""
    kind, space, text = row[2:].partition(" ")
    if not row.startswith("= ") or space == "" or not is_word(kind, MOST_KIND):
        return None
    return Reply(kind, text)


def _check_rows(rows):
    """Raises NoText with the number of the first row that does not have its form."""
    for at, row in enumerate(rows):
        if at % 2 == 0 and not row.startswith("> "):
            raise NoText(at)
        if at % 2 == 1 and _read_reply(row) is None:
            raise NoText(at)


def read_log(text):
    """The list of entries with this written form; raises NoText if there is none."""
    if not isinstance(text, str):
        raise NoText(0)
    rows = text.split("\n")
    # What stands behind the last line feed is no line of its own.
    rest = rows.pop()
    _check_rows(rows)
    if rest != "" or len(rows) % 2 == 1:
        raise NoText(len(rows))
    return [(line[2:], _read_reply(row)) for line, row in zip(rows[::2], rows[1::2])]


def first_wrong(entries):
    """The index of the first item of a list that is no right entry over the definitions before it, or -1."""
    names = {}
    for at, entry in enumerate(entries):
        if not is_right(names, entry):
            return at
        names = names_after(names, entry[0])
    return -1
