"""The numbers of the steps of a plan, and which steps stand above which."""


def postorder(root, most):
    """The steps from the root down, inputs first; just more than so many if there are more.

    A step stands there as often as it is an input, so there may be far more of them than
    objects: no more are looked at than are returned.
    """
    found = []
    waiting = [root]
    while waiting and len(found) <= most:
        step = waiting.pop()
        found.append(step)
        waiting.extend(list(step.inputs))
    return found[::-1]


def input_numbers(steps):
    """For each of the steps in postorder the numbers of its inputs."""
    found = []
    waiting = []
    for step in steps:
        first = len(waiting) - len(step.inputs)
        found.append(waiting[first:])
        waiting = waiting[:first] + [len(found)]
    return found


def above_numbers(inputs):
    """For each step the number of the step right above it, 0 for the root."""
    found = [0 for _ in inputs]
    for at in range(len(inputs)):
        for number in inputs[at]:
            found[number - 1] = at + 1
    return found


def anti_over(plan, number):
    """The lowest anti in whose right side the step stands, 0 if there is none."""
    while plan.above(number) != 0:
        over = plan.above(number)
        if plan[over].kind == "anti" and plan.inputs_of(over)[1] == number:
            return over
        number = over
    return 0
