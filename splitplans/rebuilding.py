"""Making the tree of a plan anew, with other tables, or with steps put in or taken out."""

from splitplans.plans import scan


def rebuilt(plan, tables, behind, gone):
    """The root of the new tree.

    tables are by name; behind has, for numbers of steps, a list of what is put on the edge of
    that step, pairs of a kind and its words; gone are the numbers of steps that are taken out.
    """
    made = {}
    for number in range(1, len(plan) + 1):
        inputs = [made[source] for source in plan.inputs_of(number)]
        step = inputs[0] if number in gone else _remade(plan[number], inputs, tables)
        for kind, words in behind.get(number, []):
            step = step.read_over(kind, words)
        made[number] = step
    return made[len(plan)]


def _remade(step, inputs, tables):
    """The step over other inputs."""
    if step.kind == "scan":
        return scan(tables[step.table.name])
    if len(inputs) == 2:
        return inputs[0].read_with(step.kind, inputs[1], step.pairs)
    return inputs[0].read_over(step.kind, _words_of(step))


def _words_of(step):
    """What read_over takes for a step of this kind."""
    if step.kind == "group":
        return (step.named, step.sums)
    return [word for word in (step.new, step.name) if word != ""] + step.named
