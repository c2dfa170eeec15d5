"""Worlds: the rows of tables, where they lie, and what functions, tests and rules mean."""

from splitplans.errors import InvalidWorld, UnknownName
from splitplans.values import has_twice, is_integer


class World:
    """Everything that a plan leaves open, for some tables."""

    MOST_WORKERS = 16

    def __init__(self, tables, rows, *, workers, functions=None, tests=None, rules=None, anyhow=None):
        self.tables = list(tables)
        self._rows = _copied(rows)
        self._functions = _copied(functions)
        self._tests = _copied(tests)
        self._rules = _copied(rules)
        self._anyhow = _copied(anyhow)
        # Not by world.workers: that would ask for tables and rows that are not checked yet.
        self._workers = workers
        self._check_rows()
        self._check_workers(workers)
        self._holding = {name: _holding_in(self._tests[name]) for name in self._tests}

    @property
    def workers(self):
        """How many workers there are."""
        return self._workers

    @workers.setter
    def workers(self, value):
        self.set_workers(value)

    def set_workers(self, workers):
        """Let there be so many workers."""
        self._check_workers(workers)
        self._workers = workers

    def with_workers(self, workers):
        """A new world that differs in the number of workers alone."""
        return World(self.tables, self._rows, workers=workers, functions=self._functions,
                     tests=self._tests, rules=self._rules, anyhow=self._anyhow)

    def rows_of(self, name):
        """All rows of a table, in their order."""
        self._table_of(name)
        return list(self._rows.get(name, []))

    def lying(self, name, worker):
        """The rows of a table that lie at a worker, in the table's order."""
        table = self._table_of(name)
        if not 0 <= worker < self._workers:
            return []
        rows = self.rows_of(name)
        if table.lies[0] == "copied":
            return rows
        return [row for row, place in zip(rows, self._places_of(table)) if place == worker]

    def apply(self, name, values):
        """What the function returns for a tuple of values."""
        return _result_of(self._functions.get(name), tuple(values))

    def holds(self, name, values):
        """Whether the test holds for a tuple of values."""
        meaning = self._holding.get(name)
        if meaning is None:
            return False
        if isinstance(meaning, dict):
            return tuple(values) in meaning
        return bool(meaning(*values))

    def worker(self, rule, values):
        """The worker that the rule gives for a tuple of values."""
        return _result_of(self._rules.get(rule), tuple(values)) % self._workers

    def _table_of(self, name):
        for table in self.tables:
            if table.name == name:
                return table
        raise UnknownName(name)

    def _places_of(self, table):
        """The worker of each row of a table that is not copied."""
        rows = self._rows.get(table.name, [])
        if table.lies[0] == "zero":
            return [0 for _ in rows]
        if table.lies[0] == "anyhow":
            return self._anyhow.get(table.name, [0 for _ in rows])
        _, rule, columns = table.lies
        return [self.worker(rule, values) for values in _values_in(rows, table, columns)]

    def _check_rows(self):
        """Raise InvalidWorld for tables, rows or keys that cannot be."""
        names = [table.name for table in self.tables]
        if has_twice(names):
            raise InvalidWorld("tables")
        if not all([name in names for name in self._rows]):
            raise InvalidWorld("rows")
        for table in self.tables:
            for row in self._rows.get(table.name, []):
                if not _is_row(row, len(table.columns)):
                    raise InvalidWorld("rows")
        for table in self.tables:
            if table.key and has_twice(_values_in(self._rows.get(table.name, []), table, table.key)):
                raise InvalidWorld("key")

    def _check_workers(self, workers):
        """Raise InvalidWorld if there cannot be so many workers."""
        if not is_integer(workers) or not 1 <= workers <= World.MOST_WORKERS:
            raise InvalidWorld("workers")
        names = [table.name for table in self.tables if table.lies == ("anyhow",)]
        for name in self._anyhow:
            places = self._anyhow[name]
            if name not in names or len(places) != len(self._rows.get(name, [])):
                raise InvalidWorld("anyhow")
            if not all([is_integer(place) and 0 <= place < workers for place in places]):
                raise InvalidWorld("anyhow")


def _copied(by_name):
    """The dict with its dicts and lists copied, and its callables as they are."""
    return {} if by_name is None else {name: _copy_of(by_name[name]) for name in by_name}


def _copy_of(thing):
    if isinstance(thing, dict):
        return {values: thing[values] for values in thing}
    return list(thing) if isinstance(thing, (list, tuple)) else thing


def _holding_in(meaning):
    """The tuples of a test's list as the keys of a dict, which is faster to ask."""
    return {values: True for values in meaning} if isinstance(meaning, list) else meaning


def _result_of(meaning, values):
    """What the meaning of a function or rule returns; 0 where nothing is told."""
    if meaning is None:
        return 0
    if isinstance(meaning, dict):
        return meaning.get(values, 0)
    return meaning(*values)


def _is_row(row, many):
    """Whether this is a tuple of so many integers."""
    return isinstance(row, tuple) and len(row) == many and all([is_integer(value) for value in row])


def _values_in(rows, table, columns):
    """The values of each row in some columns of the table."""
    places = [table.columns.index(name) for name in columns]
    return [tuple([row[place] for place in places]) for row in rows]
