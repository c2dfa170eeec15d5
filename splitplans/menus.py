"""Menus of exchanges, the plans that they may be placed upon, and the edges that they fit."""

from splitplans.errors import InvalidMenu, InvalidPlan
from splitplans.names import is_name
from splitplans.values import has_twice

MOST_ENTRIES = 8
MOST_COLUMNS = 3
MOST_STEPS = 8


def check_placing(plan, menu):
    """Raise InvalidPlan or InvalidMenu if the menu cannot be placed upon the plan."""
    if not _may_be_placed_upon(plan):
        placed_already = _exchanges_and_owns(plan)
        raise InvalidPlan(placed_already[0] if placed_already else 0, "placed")
    if not 1 <= len(menu) <= MOST_ENTRIES:
        raise InvalidMenu(0, "count")
    for index in range(len(menu)):
        if not _is_entry(menu[index]):
            raise InvalidMenu(index, "form")
        if menu[index] in menu[:index]:
            raise InvalidMenu(index, "twice")


def fits(step, entry):
    """Whether an entry of a menu fits the edge of a step."""
    columns = entry[2] if entry[0] == "split" else ()
    return all([column in step.columns and column not in step.measures for column in columns])


def fits_as_own(step, entry):
    """Whether an own by the rule and columns of an entry fits the edge of a step."""
    return entry[0] == "split" and fits(step, entry)


def _exchanges_and_owns(plan):
    numbers = range(1, len(plan) + 1)
    return [number for number in numbers if number in plan.exchanges or plan[number].kind == "own"]


def _may_be_placed_upon(plan):
    if len(plan) > MOST_STEPS or _exchanges_and_owns(plan) or plan.order:
        return False
    return len(plan.unions) == 0 or (len(plan.unions) == 1 and len(plan.antis) < 2)


def _is_entry(entry):
    if entry in (("gather",), ("broadcast",)):
        return True
    if not isinstance(entry, tuple) or len(entry) != 3 or entry[0] != "split":
        return False
    _, rule, columns = entry
    if not is_name(rule) or not isinstance(columns, tuple) or not 1 <= len(columns) <= MOST_COLUMNS:
        return False
    return all([is_name(column) for column in columns]) and not has_twice(columns)
