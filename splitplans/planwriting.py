"""Writing: the rows of a plan text."""


def step_row(step, numbers):
    """The row of a step, without its number, over inputs with these numbers."""
    words = [step.kind]
    if step.table is not None:
        words.append(step.table.name)
    words.extend([str(number) for number in numbers])
    words.extend([word for word in (step.new, step.name) if word != ""])
    words.extend(step.named)
    for left, right in step.pairs:
        words.extend([left, right])
    if step.sums:
        words.append("with")
    for name, measure in step.sums:
        words.append(name)
        words.extend(["count"] if measure == "count" else ["sum", measure[1]])
    return " ".join(words)


def plan_text(plan):
    """The text of a plan."""
    rows = [table.text for table in plan.tables]
    for number in range(1, len(plan) + 1):
        row = step_row(plan[number], plan.inputs_of(number))
        rows.append(f"{number} {row}")
    last = ["answer", "in"] + plan.order if plan.order else ["answer"]
    rows.append(" ".join(last))
    return "\n".join(rows)
