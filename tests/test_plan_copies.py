"""Plans, worlds, stories and states: nothing that was passed is modified, nothing returned is shared."""

import unittest

from splitplans.machine import First, Machine
from splitplans.needs import collapsed, collapses, needs, strict
from splitplans.places import failures, states
from splitplans.plain import plain, plain_rows
from splitplans.plans import Plan
from splitplans.stories import Story, choices, fitting, pair_facts

from helpers import Dice
from planmaker import drawn_plan, drawn_world


def seen(plan):
    """What can be seen of a plan."""
    steps = [(step.kind, list(step.columns), list(step.measures), len(step.inputs)) for step in plan]
    numbers = range(1, len(plan) + 1)
    return (str(plan), steps, list(plan.order), [str(table) for table in plan.tables], list(plan.exchanges),
            list(plan.unions), list(plan.antis), [plan.inputs_of(number) for number in numbers],
            [plan.above(number) for number in numbers], [plan.below(number) for number in numbers])


def answers(plan, world):
    """What the functions return for a plan and a world, as lists and dicts that may be changed."""
    found = [needs(plan), collapses(plan), choices(plan), plain(plan, world)]
    for number in range(1, len(plan) + 1):
        found += [strict(plan, number), plain_rows(plan, world, number), plan.below(number), plan.inputs_of(number)]
    for number in collapses(plan):
        found.append(collapsed(plan, number)[1])
        for choice in choices(plan):
            if number in Story(plan, choice).met:
                found.append(fitting(plan, choice, number))
                found += [pair_facts(plan, choice, number, other) for other in fitting(plan, choice, number)]
    for choice in choices(plan):
        story = Story(plan, choice)
        found += [story.facts_at(()), story.table_keys(), story.identity(len(plan))]
        found += [story.facts_at((number,)) for number in plan.antis if number in story.met]
    found += [states(plan), failures(plan)]
    return found


def shown(things):
    """The answers as texts, which can be compared whatever they hold."""
    return [spelled(thing) for thing in things]


def spelled(thing):
    if isinstance(thing, dict):
        return [(str(at), str(thing[at])) for at in sorted(thing)]
    if isinstance(thing, list):
        return [spelled(one) for one in thing]
    if isinstance(thing, tuple):
        return tuple(spelled(one) for one in thing)
    return str(thing) if not hasattr(thing, "at_end") else [spelled(one) for one in vars(thing).values()]


class Unchanged(unittest.TestCase):
    def test_questions_change_nothing(self):
        for seed in range(40):
            dice = Dice(seed)
            plan = drawn_plan(dice, 12)
            world = drawn_world(dice, plan, 3, 3, 3)
            rows = {table.name: [world.lying(table.name, worker) for worker in range(3)] for table in plan.tables}
            before = seen(plan)
            first = shown(answers(plan, world))
            for thing in answers(plan, world):
                if isinstance(thing, (list, dict)):
                    thing.clear()
            self.assertEqual(shown(answers(plan, world)), first, seed)
            machine = Machine(plan, world)
            machine.play(First())
            self.assertEqual(seen(plan), before)
            self.assertEqual(shown(answers(plan, world)), first)
            lying = {table.name: [world.lying(table.name, worker) for worker in range(3)] for table in plan.tables}
            self.assertEqual(lying, rows)

    def test_a_plan_that_was_read_answers_the_same(self):
        for seed in range(40):
            dice = Dice(seed)
            plan = drawn_plan(dice, 12)
            world = drawn_world(dice, plan, 3, 3, 3)
            again = Plan.read(str(plan))
            self.assertEqual(seen(again), seen(plan))
            self.assertEqual(shown(answers(again, world)), shown(answers(plan, world)))
