"""Whether steps make a plan: InvalidPlan with the first reason why not."""

from splitplans.errors import InvalidPlan
from splitplans.needs import SET, needs
from splitplans.numbering import anti_over
from splitplans.values import begins_with, has_twice

MOST_ORDER = 3
# Steps that keep the order of their (left) input's rows.
ORDERLY = ("where", "compute", "equal", "keep", "own", "join", "semi", "anti")


def check_steps(plan):
    """Raise InvalidPlan at the first step at which something is wrong."""
    found = needs(plan)
    for number in range(1, len(plan) + 1):
        reason = _fault_at(plan, number, found[number])
        if reason is not None:
            raise InvalidPlan(number, reason)


def check_order(plan):
    """Raise InvalidPlan if the order is not 0 to 3 unlike plain columns of the root."""
    plain = [column for column in plan.root.columns if column not in plan.root.measures]
    strange = [column for column in plan.order if column not in plain]
    if len(plan.order) > MOST_ORDER or strange or has_twice(plan.order):
        raise InvalidPlan(len(plan), "order")


def _fault_at(plan, number, need):
    """The first reason why the step cannot stand there, or None."""
    step = plan[number]
    earlier = [other for other in plan.steps[:number - 1] if other.kind == step.kind]
    if step.kind == "scan" and step.table.name in [other.table.name for other in earlier]:
        return "table"
    if step.kind == "where" and step.name in [other.name for other in earlier]:
        return "test"
    if step.kind == "merge" and not _is_sorted(step.inputs[0], step.named):
        return "merge"
    if step.kind == "anti" and anti_over(plan, number) != 0:
        return "anti"
    if step.kind == "where" and need == SET and any([column in step.measures for column in step.named]):
        return "loose"
    return None


def _is_sorted(step, columns):
    """Whether the step's rows are, as its plan is written, ascending by the columns."""
    while step.kind in ORDERLY:
        step = step.inputs[0]
        if not all([column in step.columns for column in columns]):
            return False
    if step.kind == "distinct":
        return begins_with(step.columns, columns)
    return step.kind in ("sort", "group") and begins_with(step.named, columns)
