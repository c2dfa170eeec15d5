"""Plans and worlds that look drawn, the same ones in each run and under each Python."""

from splitplans.errors import InputError, SizeError
from splitplans.places import failures
from splitplans.plans import Plan, scan
from splitplans.rebuilding import rebuilt
from splitplans.tables import Table
from splitplans.worlds import World

RULES = ("r", "r", "r", "q")
FUNCTIONS = ("f", "f", "g")


class Maker:
    """Makes one plan from dice; what cannot be made raises the package's errors."""

    def __init__(self, dice, most_steps=12, exchanges=True):
        self.dice = dice
        self.tables = []
        self.tests = 0
        self.made = 0
        self.most_steps = most_steps
        self.exchanges = exchanges

    def some(self, things, most):
        """1 to so many unlike ones of these things."""
        things = list(things)
        found = []
        for _ in range(1 + self.dice.below(min(most, len(things)))):
            found.append(things.pop(self.dice.below(len(things))))
        return found

    def table(self):
        name = "abcde"[len(self.tables)]
        columns = [f"{name}{at}" for at in range(1, 2 + self.dice.below(3))]
        kind = self.dice.below(7)
        if kind < 2:
            lies = ("dealt", self.dice.one_of(RULES), tuple(self.some(columns, 2)))
        else:
            lies = [("anyhow",), ("anyhow",), ("zero",), ("copied",), ("copied",)][kind - 2]
        key = self.some(columns, 2) if self.dice.below(3) == 0 else ()
        table = Table(name, columns, key=key, lies=lies)
        self.tables.append(table)
        return table

    def stream(self, depth):
        """A step with about so many steps below it."""
        if depth <= 0:
            return scan(self.table())
        if depth > 1 and self.dice.below(3) == 0 and len(self.tables) < 4:
            half = self.dice.below(depth)
            return self.over_two(self.stream(half), self.stream(depth - 1 - half))
        return self.over_one(self.stream(depth - 1))

    def plain_of(self, step):
        return [column for column in step.columns if column not in step.measures]

    def over_two(self, left, right):
        kind = self.dice.below(6)
        if kind < 2 and len(left.columns) != len(right.columns):
            many = min(len(left.columns), len(right.columns))
            left, right = left.keep(*left.columns[:many]), right.keep(*right.columns[:many])
        if kind < 2:
            return left + right
        ours, theirs = self.plain_of(left), self.plain_of(right)
        on = [(self.dice.one_of(ours), self.dice.one_of(theirs)) for _ in range(1 + self.dice.below(4) // 3)]
        on = sorted(set(on))
        if kind < 4:
            return left.join_with(right, on)
        return left.semi_with(right, on) if kind == 4 else left.anti_with(right, on)

    def over_one(self, step):
        dice, plain = self.dice, self.plain_of(step)
        kind = dice.below(14 if self.exchanges else 9)
        if kind == 0:
            self.tests += 1
            measured = step.measures and dice.below(3) == 0
            columns = step.columns if measured or not plain else self.some(plain, 2)
            return step.where(f"p{self.tests}", *columns)
        if kind == 1:
            self.made += 1
            return step.compute(f"n{self.made}", dice.one_of(FUNCTIONS), *self.some(plain, 2))
        if kind == 2 and len(plain) > 1:
            return step.equal(*self.some(plain, 2)[:1], dice.one_of(plain))
        if kind == 3:
            return step.keep(*self.some(step.columns, 3))
        if kind == 4:
            return step.distinct()
        if kind in (5, 6, 7):
            return self.group(step, plain)
        if kind == 8:
            return step.sort_by(*self.some(plain, 2))
        if kind == 9:
            return step.own_by(dice.one_of(RULES), *self.some(plain, 2))
        if kind in (10, 11):
            return step.split_by(dice.one_of(RULES), *self.some(plain, 2))
        if kind == 12:
            return step.broadcast() if dice.below(3) == 0 else step.gather()
        if kind == 13 and step.kind in ("sort", "group", "distinct"):
            columns = step.columns if step.kind == "distinct" else step.named
            return step.merge_by(*columns[:1 + dice.below(len(columns))]) if columns else step.gather()
        return step.gather()

    def group(self, step, plain):
        columns = self.some(plain, 2) if plain and self.dice.below(6) else []
        measures = {}
        for _ in range(self.dice.below(3)):
            self.made += 1
            summed = self.dice.one_of(step.measures or step.columns)
            measures[f"n{self.made}"] = "count" if self.dice.below(3) == 0 else ("sum", summed)
        return step.group_by(*columns, **measures)

    def plan(self):
        root = self.stream(1 + self.dice.below(self.most_steps))
        order = ()
        plain = self.plain_of(root)
        if plain and self.dice.below(3) == 0:
            order = self.some(plain, 2)
        return Plan(root, order)


def drawn_plan(dice, most_steps=12, exchanges=True):
    """A plan; tries again until one can be made."""
    while True:
        try:
            return Maker(dice, most_steps, exchanges).plan()
        except (InputError, SizeError, IndexError, ZeroDivisionError):
            continue


def drawn_world(dice, plan, workers, most_rows, values):
    """A world of dicts and lists for the plan's tables."""
    rows, anyhow = {}, {}
    for table in plan.tables:
        found = []
        for _ in range(dice.below(most_rows + 1)):
            row = tuple(dice.below(values) for _ in table.columns)
            places = [table.columns.index(column) for column in table.key]
            alike = [other for other in found if [other[at] for at in places] == [row[at] for at in places]]
            if not table.key or not alike:
                found.append(row)
        rows[table.name] = found
        if table.lies == ("anyhow",):
            anyhow[table.name] = [dice.below(workers) for _ in found]
    everything = [one for many in (1, 2, 3) for one in all_tuples(values, many)]
    functions = {name: {one: dice.below(values) for one in everything} for name in ("f", "g")}
    rules = {name: {one: dice.below(97) for one in everything} for name in ("r", "q")}
    tests = {step.name: drawn_test(dice) for step in plan if step.kind == "where"}
    return World(plan.tables, rows, workers=workers, functions=functions, tests=tests, rules=rules, anyhow=anyhow)


def drawn_test(dice):
    """A callable that holds for most tuples, always for the same ones."""
    start = dice.below(1000)

    def test(*values):
        sign = start
        for value in values:
            sign = (sign * 31 + value * 17) % 1009
        return sign % 4 != 0
    return test


def all_tuples(values, many):
    found = [()]
    for _ in range(many):
        found = [one + (value,) for one in found for value in range(values)]
    return found


def edited(plan, behind, gone=(), order=None):
    """The plan with steps put behind others, and some taken out."""
    tables = {table.name: table for table in plan.tables}
    return Plan(rebuilt(plan, tables, behind, gone), plan.order if order is None else order)


def mended(dice, plan, tries=14):
    """The plan with exchanges where it failed, until it has no failure but by rank 3, or none left."""
    for _ in range(tries):
        found = failures(plan)
        if not found or found[0].rank == 3:
            return plan
        try:
            plan = mended_at(dice, plan, found[0])
        except (InputError, SizeError):
            pass
    return plan


def mended_at(dice, plan, failure):
    number, step = failure.number, plan[failure.number]
    if failure.at_end:
        return edited(plan, {number: [("gather", [])]})
    if number in plan.exchanges or step.kind == "own":
        return edited(plan, {}, [number])
    left, right = plan.inputs_of(number)
    ours = ["r"] + [column for column, _ in step.pairs]
    theirs = ["r"] + [column for _, column in step.pairs]
    put = [
        {left: [("gather", [])], right: [("gather", [])]},
        {right: [("broadcast", [])]},
        {left: [("broadcast", [])]},
        {left: [("split", ours)], right: [("split", theirs)]},
        {left: [("own", ours)], right: [("split", theirs)]},
    ]
    return edited(plan, dice.one_of(put))


def drawn_mended_plan(dice, most_steps=10):
    """A plan that mostly has its rows at the right places, in half of the cases with an order."""
    plan = mended(dice, drawn_plan(dice, most_steps))
    plain = [column for column in plan.root.columns if column not in plan.root.measures]
    order = []
    if plain and dice.below(2):
        for _ in range(1 + dice.below(min(3, len(plain)))):
            order.append(plain.pop(dice.below(len(plain))))
    return Plan(plan.root, order)


def drawn_small_plan(dice, most_steps=5):
    """A plan that can be placed upon."""
    while True:
        plan = drawn_plan(dice, most_steps, False)
        two = len(plan.unions) == 1 and len(plan.antis) == 2
        if len(plan) <= 8 and len(plan.unions) < 2 and not two and not plan.exchanges:
            return Plan(plan.root)


def drawn_menu(dice, plan, most=3):
    columns = sorted({column for step in plan for column in step.columns})
    menu = []
    for _ in range(1 + dice.below(most)):
        kind = dice.below(5)
        entry = ("broadcast",) if kind == 0 else ("gather",)
        if kind > 2:
            named = dict.fromkeys(dice.one_of(columns) for _ in range(1 + dice.below(2)))
            entry = ("split", dice.one_of(("r", "q")), tuple(named))
        if entry not in menu:
            menu.append(entry)
    return menu
