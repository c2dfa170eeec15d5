"""The desk: a plan, and deeds that change it and can be taken back."""

from splitplans.errors import InvalidPlan, InvalidStep, NothingToUndo, UnknownDeed, UnknownName
from splitplans.orders import broken_claim
from splitplans.places import failures
from splitplans.plans import Plan
from splitplans.rebuilding import rebuilt

# How many items a deed of each word has, and an exchange of each word, the word among them.
DEEDS = {"lie": 3, "key": 3, "put": 3, "take": 2}
EXCHANGES = {"split": 3, "own": 3, "merge": 2, "gather": 1, "broadcast": 1}


class Desk:
    """Holds a plan. Each deed makes another plan of it and returns that one."""

    def __init__(self, plan):
        self.plan = plan
        self._earlier = []

    @property
    def undoable(self):
        """How many deeds can be taken back."""
        return len(self._earlier)

    def is_right(self):
        """Whether the plan, as it stands, is right."""
        return not failures(self.plan) and broken_claim(self.plan) is None

    def set_lie(self, table, lies):
        """Let the rows of a table lie so."""
        return self._turn_to(_with_lie(self.plan, table, lies))

    def set_key(self, table, columns):
        """Give a table this key, or none."""
        return self._turn_to(_with_key(self.plan, table, columns))

    def put(self, number, exchange):
        """Put an exchange or an own on the edge of a step."""
        return self._turn_to(_with_step(self.plan, number, exchange))

    def take(self, number):
        """Take out an exchange or an own."""
        return self._turn_to(_without_step(self.plan, number))

    def undo(self):
        """Take back the last deed that is not taken back."""
        if not self._earlier:
            raise NothingToUndo()
        self.plan = self._earlier.pop()
        return self.plan

    def try_all(self, deeds):
        """Do several deeds as one; if one of them raises an error, none is done."""
        told = list(deeds)
        plan = self.plan
        for index in range(len(told)):
            deed = told[index]
            if not _is_deed(deed):
                raise UnknownDeed(index)
            plan = _after(plan, *deed)
        return self._turn_to(plan)

    def _turn_to(self, plan):
        self._earlier.append(self.plan)
        self.plan = plan
        return plan


def _word_of(thing):
    """The word with which a tuple begins; the empty string for anything else."""
    if not isinstance(thing, tuple) or len(thing) == 0 or not isinstance(thing[0], str):
        return ""
    return thing[0]


def _is_deed(thing):
    """Whether this is a deed of try_all, with columns where it has some."""
    word = _word_of(thing)
    if word not in DEEDS or DEEDS[word] != len(thing):
        return False
    return word != "key" or isinstance(thing[2], (list, tuple))


def _is_exchange(thing):
    """Whether this is an exchange or own of a known form, with a tuple of columns where it has some."""
    word = _word_of(thing)
    if word not in EXCHANGES or EXCHANGES[word] != len(thing):
        return False
    return len(thing) == 1 or isinstance(thing[-1], tuple)


def _after(plan, word, about, told=None):
    """The plan that a deed of try_all makes of this one."""
    if word == "lie":
        return _with_lie(plan, about, told)
    if word == "key":
        return _with_key(plan, about, told)
    if word == "put":
        return _with_step(plan, about, told)
    return _without_step(plan, about)


def _with_lie(plan, name, lies):
    return _with_table(plan, _table_of(plan, name).with_lie(lies))


def _with_key(plan, name, columns):
    return _with_table(plan, _table_of(plan, name).with_key(*columns))


def _with_step(plan, number, exchange):
    if number not in plan:
        raise InvalidPlan(number, "number")
    if not _is_exchange(exchange):
        raise InvalidStep("form")
    words = list(exchange[1:])
    if words:
        columns = words.pop()
        words.extend(columns)
    root = rebuilt(plan, _tables_of(plan), {number: [(exchange[0], words)]}, [])
    return Plan(root, plan.order)


def _without_step(plan, number):
    if number not in plan or (number not in plan.exchanges and plan[number].kind != "own"):
        raise InvalidPlan(number, "number")
    return Plan(rebuilt(plan, _tables_of(plan), {}, [number]), plan.order)


def _with_table(plan, table):
    """The plan with this table in place of the one of its name."""
    tables = _tables_of(plan)
    tables[table.name] = table
    return Plan(rebuilt(plan, tables, {}, []), plan.order)


def _tables_of(plan):
    return {table.name: table for table in plan.tables}


def _table_of(plan, name):
    for table in plan.tables:
        if table.name == name:
            return table
    raise UnknownName(name)
