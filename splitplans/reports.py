"""Reports: what each step of a plan needs, and where its rows lie."""

from splitplans.needs import needs
from splitplans.places import states
from splitplans.planwriting import step_row
from splitplans.stories import Story, choices


def report(plan):
    """The report of a plan, choice by choice."""
    wanted = needs(plan)
    known = states(plan)
    rows = []
    for choice in choices(plan):
        rows.append(" ".join(["choice", *choice] if choice else ["choice", "-"]))
        for number in Story(plan, choice).met:
            row = step_row(plan[number], plan.inputs_of(number))
            state = str(known[number, choice])
            rows.append(f"{number:>2} {row:<24} {wanted[number][0]:<6} {state}")
    return "\n".join(rows)
