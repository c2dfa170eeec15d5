"""What the output of each step must give for the answer to be right."""

SET = ("set",)


def needs(plan):
    """The need of each step, by its number."""
    found = {len(plan): ("rows", tuple(plan.root.measures))}
    for number in range(len(plan), 0, -1):
        below = _needs_below(plan[number], found[number])
        for source, need in zip(plan.inputs_of(number), below):
            found[source] = need
    return {number: found[number] for number in range(1, len(plan) + 1)}


def strict(plan, number):
    """Whether the need of a step is rows or parts."""
    return needs(plan)[number] != SET


def collapses(plan):
    """The numbers of the steps that make one of several rows and must not do so twice."""
    found = needs(plan)
    return [number for number in found if _is_collapse(plan[number].kind, found[number])]


def collapsed(plan, number):
    """The number of the input that a distinct, group or semi collapses, and its key columns."""
    step = plan[number]
    sources = plan.inputs_of(number)
    if step.kind == "semi":
        return (sources[1], [right for _, right in step.pairs])
    columns = step.columns if step.kind == "distinct" else step.named
    return (sources[0], list(columns))


def _is_collapse(kind, need):
    if kind == "semi":
        return need != SET
    return kind in ("distinct", "group") and need[0] == "rows"


def _needs_below(step, need):
    """The needs of the inputs of a step, in their order."""
    if step.kind == "scan":
        return []
    source = step.inputs[0]
    if step.kind == "distinct":
        return [SET]
    if step.kind == "group":
        return [_below_group(step, need, source)]
    if step.kind in ("semi", "anti"):
        return [_same(need, source), SET]
    if step.kind == "join":
        return _below_join(need, source, step.inputs[1])
    if step.kind == "union":
        return [_below_union(step, need, source) for source in step.inputs]
    if step.kind == "where" and any([column in source.measures for column in step.named]):
        return [_need_of("rows", source, source.measures)]
    return [_same(need, source)]


def _need_of(word, source, names):
    """The need of a step with those of its measures that are among the names."""
    return (word, tuple([column for column in source.measures if column in names]))


def _same(need, source):
    return SET if need == SET else _need_of(need[0], source, need[1])


def _below_group(step, need, source):
    if need == SET or len(need[1]) == 0:
        return SET
    wanted = [measure for name, measure in step.sums if name in need[1]]
    summed = [measure[1] for measure in wanted if measure != "count"]
    whole = "count" in wanted or not all([column in source.measures for column in summed])
    return _need_of("rows" if whole else "parts", source, summed)


def _below_join(need, left, right):
    if need == SET:
        return [SET, SET]
    word, names = need
    words = ["rows", "rows"]
    if word == "parts":
        # The sums are right if those of one input are, and the other one has each mate once.
        if all([name in left.measures for name in names]):
            words = ["parts", "rows"]
        elif all([name in right.measures for name in names]):
            words = ["rows", "parts"]
    return [_need_of(words[0], left, names), _need_of(words[1], right, names)]


def _below_union(step, need, source):
    if need == SET:
        return SET
    word, names = need
    columns = [source.columns[step.columns.index(name)] for name in names]
    if not all([column in source.measures for column in columns]):
        word = "rows"
    return _need_of(word, source, columns)
