"""Consoles: definitions and entries (point 8.4)."""

from classtable.errors import Refused
from classtable.log import write_log
from classtable.replies import names_after, reply_to


class Console:
    """It replies to lines, and keeps the entries and the names that they define."""

    def __init__(self, *, most=200):
        self._most = most
        self._entries = []
        self._names = {}

    def enter(self, line):
        """Enters the line and returns the reply; raises Refused if as many lines are entered as may be."""
        if len(self._entries) >= self._most:
            raise Refused("lines")
        reply = reply_to(self._names, line)
        self._names = names_after(self._names, line)
        self._entries.append((line, reply))
        return reply

    def __len__(self):
        return len(self._entries)

    def __iter__(self):
        return iter(self._entries)

    def names(self):
        """A new dict from the defined names to their groups."""
        return dict(self._names)

    def log(self):
        """The written form of the log."""
        return write_log(list(self._entries))
