"""Two rows of one step, each of a story: when they are one, and which columns arrange them."""


def telling_columns(step):
    """The columns by which a sort, a group, a distinct or a merge arranges its rows."""
    return list(step.columns if step.kind == "distinct" else step.named)


def column_pairs(first, second, number, columns):
    """For each of some columns of a step its term in the first story and, marked, in the second."""
    left = first.terms_of(number, columns)
    right = second.terms_of(number, columns)
    return [(one, other.second()) for one, other in zip(left, right)]


def identity_pairs(plan, first, second, number):
    """The pairs of terms that are equal if the rows are one; None if they never are."""
    if _part_ways(plan, first, second, number):
        return None
    left = first.identity(number)
    right = second.identity(number)
    return [(one, other.second()) for one, other in zip(left, right)]


def _part_ways(plan, first, second, number):
    """Whether the step's identity takes in a union that the stories follow into unlike inputs."""
    kind = plan[number].kind
    if kind in ("scan", "distinct", "group"):
        return False
    sources = plan.inputs_of(number)
    if kind == "join":
        return any([_part_ways(plan, first, second, source) for source in sources])
    if kind == "union":
        source = first.followed(number)
        return source != second.followed(number) or _part_ways(plan, first, second, source)
    return _part_ways(plan, first, second, sources[0])
