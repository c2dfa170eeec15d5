"""Tables: their columns, their keys, and at which workers their rows lie."""

from splitplans.errors import InvalidTable
from splitplans.names import is_name
from splitplans.values import has_twice

MOST_DEALT = 3
PLAIN_LIES = (("copied",), ("anyhow",), ("zero",))


class Table:
    """A table. It never changes; with_lie and with_key make others."""

    MOST_COLUMNS = 8

    def __init__(self, name, columns, *, key=(), lies=("anyhow",)):
        self.name = name
        self.columns = list(columns)
        self.key = list(key)
        self.lies = lies
        reason = _fault_of(self)
        if reason is not None:
            raise InvalidTable(name, reason)
        self.text = _row_of(self)

    def with_lie(self, lies):
        """This table with another lie."""
        return Table(self.name, self.columns, key=self.key, lies=lies)

    def with_key(self, *columns):
        """This table with another key, or with none."""
        return Table(self.name, self.columns, key=columns, lies=self.lies)

    def __eq__(self, other):
        return isinstance(other, Table) and self.text == other.text

    def __str__(self):
        return str(self.text)


def _fault_of(table):
    """The first reason why there can be no such table, or None."""
    if not is_name(table.name):
        return "name"
    if not 1 <= len(table.columns) <= Table.MOST_COLUMNS:
        return "columns"
    if not all([is_name(name) for name in table.columns]) or has_twice(table.columns):
        return "columns"
    if not _are_unlike(table.key, table.columns):
        return "key"
    return None if table.lies in PLAIN_LIES or _is_dealt(table.lies, table.columns) else "lies"


def _are_unlike(names, columns):
    """Whether all names are columns, none of them twice."""
    return all([name in columns for name in names]) and not has_twice(names)


def _is_dealt(lies, columns):
    if not isinstance(lies, tuple) or len(lies) != 3 or lies[0] != "dealt":
        return False
    _, rule, dealt = lies
    if not is_name(rule) or not isinstance(dealt, tuple):
        return False
    return 1 <= len(dealt) <= MOST_DEALT and _are_unlike(dealt, columns)


def _row_of(table):
    """The table's row of a plan text."""
    words = ["table", table.name] + table.columns
    if table.key:
        words = words + ["key"] + table.key
    words.append(table.lies[0])
    if table.lies[0] == "dealt":
        words.append(table.lies[1])
        words.extend(list(table.lies[2]))
    return " ".join(words)
