"""What steps return for the rows that their inputs return."""


def returned(step, streams, world):
    """The rows of a step that is no scan, no own and no exchange; a stream for each input."""
    if step.kind in ("join", "semi", "anti"):
        return _paired(step, streams[0], streams[1])
    if step.kind == "union":
        return streams[0] + streams[1]
    rows = streams[0]
    if step.kind == "distinct":
        return sorted(set(rows))
    places = places_of(step.inputs[0], step.named)
    if step.kind == "where":
        return [row for row in rows if world.holds(step.name, values_at(row, places))]
    if step.kind == "compute":
        return [row + (world.apply(step.name, values_at(row, places)),) for row in rows]
    if step.kind == "equal":
        left, right = places
        return [row for row in rows if row[left] == row[right]]
    if step.kind == "keep":
        return [values_at(row, places) for row in rows]
    if step.kind == "sort":
        return sorted(rows, key=lambda row: values_at(row, places))
    return _grouped(step, rows)


def owned(step, rows, world, worker):
    """The rows that an own keeps at a worker."""
    places = places_of(step.inputs[0], step.named)
    return [row for row in rows if world.worker(step.name, values_at(row, places)) == worker]


def places_of(step, columns):
    """Where these columns of a step stand in its rows."""
    return [step.columns.index(column) for column in columns]


def values_at(row, places):
    """The values of a row at some places."""
    return tuple([row[place] for place in places])


def _grouped(step, rows):
    """One row for each unlike tuple of key values, ascending by these."""
    source = step.inputs[0]
    places = places_of(source, step.named)
    groups = {}
    for row in rows:
        groups.setdefault(values_at(row, places), []).append(row)
    measures = [measure for _, measure in step.sums]
    return [values + _measured(source, measures, groups[values]) for values in sorted(list(groups))]


def _measured(source, measures, rows):
    """The values of the measures over some rows of the source."""
    values = []
    for measure in measures:
        if measure == "count":
            values.append(len(rows))
        else:
            place = source.columns.index(measure[1])
            values.append(sum([row[place] for row in rows]))
    return tuple(values)


def _paired(step, ours, theirs):
    """The rows of a join, a semi or an anti."""
    left, right = step.inputs
    places = places_of(left, [column for column, _ in step.pairs])
    other_places = places_of(right, [column for _, column in step.pairs])
    mates = {}
    for row in theirs:
        mates.setdefault(values_at(row, other_places), []).append(row)
    if step.kind == "semi":
        return [row for row in ours if values_at(row, places) in mates]
    if step.kind == "anti":
        return [row for row in ours if values_at(row, places) not in mates]
    return [row + mate for row in ours for mate in mates.get(values_at(row, places), [])]
