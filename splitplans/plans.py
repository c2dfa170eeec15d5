"""Steps, which return streams of rows, and plans, which are trees of steps."""

from splitplans.errors import InvalidPlan, TooMany
from splitplans.numbering import above_numbers, input_numbers, postorder
from splitplans.planchecks import check_order, check_steps
from splitplans.planreading import INPUTS, read_plan
from splitplans.planwriting import plan_text
from splitplans.stepchecks import (
    check_compute, check_distinct, check_equal, check_group, check_join, check_keep, check_pairs,
    check_ruled, check_sorted, check_union, check_where,
)
from splitplans.tables import Table
from splitplans.values import is_integer

EXCHANGES = ("split", "broadcast", "gather", "merge")


def scan(table):
    """The step that returns the rows of a table."""
    depths = {column: 0 for column in table.columns}
    return Step("scan", (), table.columns, [], depths, table=table)


class Step:
    """A step over the steps that are its inputs. It never changes; its methods make steps over it.

    depths says of each plain column how deep it is. Behind it stand the words of the step: its
    table; the name of its test, function or rule; the new column; the columns that are named,
    for a group its keys; the pairs; and a group's measures, each a pair of a name and a measure.
    """

    def __init__(self, kind, inputs, columns, measures, depths, *,
                 table=None, name="", new="", named=(), pairs=(), sums=()):
        self.kind = kind
        self.inputs = tuple(inputs)
        self.columns = list(columns)
        self.measures = list(measures)
        self.depths = {column: depths[column] for column in depths}
        self.table = table
        self.name = name
        self.new = new
        self.named = list(named)
        self.pairs = list(pairs)
        self.sums = list(sums)

    def where(self, test, *columns):
        """The rows for whose values in the columns the test holds."""
        check_where(self, test, columns)
        return self._alike("where", test, columns)

    def compute(self, name, function, *columns):
        """Each row with one column more: the function of the columns."""
        deep = check_compute(self, name, function, columns)
        return Step("compute", (self,), self.columns + [name], self.measures, {**self.depths, name: deep},
                    name=function, new=name, named=columns)

    def equal(self, left, right):
        """The rows with the same value in two columns."""
        check_equal(self, left, right)
        return self._alike("equal", "", (left, right))

    def keep(self, *columns):
        """Each row cut to these columns."""
        check_keep(self, columns)
        measures = [column for column in columns if column in self.measures]
        depths = {column: self.depths[column] for column in columns if column not in measures}
        return Step("keep", (self,), columns, measures, depths, named=columns)

    def distinct(self):
        """Each unlike row once."""
        check_distinct(self)
        return self._alike("distinct", "", ())

    def group_by(self, *keys, **measures):
        """One row for each unlike tuple of values of the keys, with these measures."""
        return self._grouped(keys, list(measures.items()))

    def sort_by(self, *columns):
        """The rows ascending by the columns."""
        check_sorted(self, columns)
        return self._alike("sort", "", columns)

    def own_by(self, rule, *columns):
        """At a worker: the rows for whose values in the columns the rule gives this worker."""
        check_ruled(self, rule, columns)
        return self._alike("own", rule, columns)

    def split_by(self, rule, *columns):
        """The exchange that brings each row to the worker that the rule gives."""
        check_ruled(self, rule, columns)
        return self._alike("split", rule, columns)

    def broadcast(self):
        """The exchange that brings each row to each worker."""
        return self._alike("broadcast", "", ())

    def gather(self):
        """The exchange that brings each row to worker 0."""
        return self._alike("gather", "", ())

    def merge_by(self, *columns):
        """The exchange that brings each row to worker 0, in the order of the columns."""
        check_sorted(self, columns)
        return self._alike("merge", "", columns)

    def join_with(self, other, on):
        """Each row with each row of the other step that is alike in all pairs."""
        pairs = _tuples(on)
        check_join(self, other, pairs)
        return Step("join", (self, other), self.columns + other.columns, self.measures + other.measures,
                    {**self.depths, **other.depths}, pairs=pairs)

    def semi_with(self, other, on):
        """The rows that have a mate, a row of the other step that is alike in all pairs."""
        pairs = _tuples(on)
        check_pairs(self, other, pairs)
        return Step("semi", (self, other), self.columns, self.measures, self.depths, pairs=pairs)

    def anti_with(self, other, on):
        """The rows that have no mate."""
        pairs = _tuples(on)
        check_pairs(self, other, pairs)
        return Step("anti", (self, other), self.columns, self.measures, self.depths, pairs=pairs)

    def __add__(self, other):
        check_union(self, other)
        measures = []
        depths = {}
        for column, second in zip(self.columns, other.columns):
            if column in self.measures or second in other.measures:
                measures.append(column)
            else:
                depths[column] = max(self.depths[column], other.depths[second])
        return Step("union", (self, other), self.columns, measures, depths)

    def _alike(self, kind, name, named):
        """A step with this one as its input and with the same columns."""
        return Step(kind, (self,), self.columns, self.measures, self.depths, name=name, named=named)

    def _grouped(self, columns, sums):
        """A group by key columns; the measures are pairs, so that a text may name one twice."""
        check_group(self, columns, sums)
        depths = {column: self.depths[column] for column in columns}
        names = [name for name, _ in sums]
        return Step("group", (self,), list(columns) + names, names, depths, named=columns, sums=sums)

    def read_over(self, kind, over):
        """The step of this kind over this one, with what a reader has read."""
        if kind == "group":
            columns, sums = over
            return self._grouped(columns, sums)
        if kind == "where":
            return self.where(*over)
        if kind == "compute":
            return self.compute(*over)
        if kind == "equal":
            return self.equal(*over)
        if kind == "keep":
            return self.keep(*over)
        if kind == "sort":
            return self.sort_by(*over)
        if kind == "own":
            return self.own_by(*over)
        if kind == "split":
            return self.split_by(*over)
        if kind == "merge":
            return self.merge_by(*over)
        if kind == "distinct":
            return self.distinct()
        return self.broadcast() if kind == "broadcast" else self.gather()

    def read_with(self, kind, other, over):
        """The step of this kind over this one and another, with what a reader has read."""
        if kind == "join":
            return self.join_with(other, over)
        if kind == "semi":
            return self.semi_with(other, over)
        return self.anti_with(other, over) if kind == "anti" else self + other


class Plan:
    """A tree of steps, numbered from 1 in postorder, and the order that is promised."""

    MOST_STEPS = 24
    MOST_TABLES = 5
    MOST_UNIONS = 2
    MOST_ANTIS = 2

    def __init__(self, root, order=()):
        self.root = root
        self.order = list(order)
        self.steps = postorder(root, Plan.MOST_STEPS)
        if len(self.steps) > Plan.MOST_STEPS:
            raise TooMany(Plan.MOST_STEPS)
        self._inputs = input_numbers(self.steps)
        self._above = above_numbers(self._inputs)
        self.tables = [step.table for step in self.steps if step.kind == "scan"]
        self.exchanges = self._numbers_of(EXCHANGES)
        self.unions = self._numbers_of(("union",))
        self.antis = self._numbers_of(("anti",))
        self._check_many()
        check_steps(self)
        check_order(self)
        self.text = plan_text(self)

    @classmethod
    def read(cls, text):
        """The plan that has this text; raises InvalidText, then the errors of what is made."""
        reader = read_plan(text)
        tables = [Table(name, columns, key=key, lies=lies) for name, columns, key, lies in reader.tables]
        return cls(_read_root(reader, tables), reader.order)

    def inputs_of(self, number):
        """The numbers of a step's inputs."""
        return list(self._inputs[self._place(number)])

    def above(self, number):
        """The number of the step right above, 0 for the root."""
        return self._above[self._place(number)]

    def below(self, number):
        """The numbers of the steps below, ascending."""
        found = []
        waiting = self.inputs_of(number)
        while waiting:
            at = waiting.pop()
            found.append(at)
            waiting.extend(self.inputs_of(at))
        return sorted(found)

    def __len__(self):
        return len(self.steps)

    def __getitem__(self, at):
        return self.steps[self._place(at)]

    def __contains__(self, x):
        return is_integer(x) and 1 <= x <= len(self.steps)

    def __iter__(self):
        return iter(self.steps)

    def __eq__(self, other):
        return isinstance(other, Plan) and self.text == other.text

    def __str__(self):
        return str(self.text)

    def _place(self, number):
        """Where a step stands in the lists."""
        if number not in self:
            raise InvalidPlan(number, "number")
        return number - 1

    def _numbers_of(self, kinds):
        return [at + 1 for at in range(len(self.steps)) if self.steps[at].kind in kinds]

    def _check_many(self):
        if len(self.tables) > Plan.MOST_TABLES:
            raise TooMany(Plan.MOST_TABLES)
        if len(self.unions) > Plan.MOST_UNIONS:
            raise TooMany(Plan.MOST_UNIONS)
        if len(self.antis) > Plan.MOST_ANTIS:
            raise TooMany(Plan.MOST_ANTIS)


def _tuples(on):
    return [(left, right) for left, right in on]


def _read_root(reader, tables):
    """The root of the steps that have been read, over these tables in the order of the scans."""
    waiting = []
    scanned = 0
    for kind, over in reader.steps:
        if kind == "scan":
            waiting.append(scan(tables[scanned]))
            scanned += 1
        elif INPUTS[kind] == 1:
            waiting.append(waiting.pop().read_over(kind, over))
        else:
            right = waiting.pop()
            waiting.append(waiting.pop().read_with(kind, right, over))
    return waiting[0]
