"""Plain answers: what one worker returns that holds all rows."""

from splitplans.errors import InvalidWorld
from splitplans.streams import returned


def plain(plan, world):
    """The plain answer of the plan in the world."""
    return plain_rows(plan, world, len(plan))


def plain_rows(plan, world, number):
    """The plain rows of a step."""
    require_tables(plan, world)
    found = {}
    for at in plan.below(number) + [number]:
        found[at] = _rows_of(plan[at], [found[source] for source in plan.inputs_of(at)], world)
    return list(found[number])


def require_tables(plan, world):
    """Raise InvalidWorld if the world lacks a table that is equal to one of the plan's."""
    if not all([table in world.tables for table in plan.tables]):
        raise InvalidWorld("tables")


def _rows_of(step, streams, world):
    if step.kind == "scan":
        return world.rows_of(step.table.name)
    if step.kind in ("own", "split", "broadcast", "gather", "merge"):
        return streams[0]
    return returned(step, streams, world)
