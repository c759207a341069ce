"""Papers of character tables (point 5.6)."""

from classtable.classes import classes


def table_paper(table):
    """The paper of a CharacterTable, with the classes in their order."""
    return ("table", classes(table.group), table.degrees(), table.rows)
