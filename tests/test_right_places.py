"""Right places: point 25, with plans and worlds that look drawn."""

import unittest

from splitplans.machine import Drawn, First, Last, Machine
from splitplans.places import failures
from splitplans.plain import plain
from splitplans.plans import Plan, scan
from splitplans.tables import Table

from helpers import Dice
from planmaker import drawn_plan, drawn_world


def ends_otherwise(plan, world, dice):
    """Whether one of some runs ends with other rows than the plain answer."""
    wanted = sorted(plain(plan, world))
    for chooser in (First(), Last(), Drawn([dice.below(60) for _ in range(7)])):
        machine = Machine(plan, world)
        machine.play(chooser)
        if sorted(machine.answer()) != wanted:
            return True
    return False


def drawn_right_plan(dice):
    """A plan without failure, with exchanges and some steps."""
    while True:
        plan = drawn_plan(dice, 12)
        if len(plan) >= 5 and plan.exchanges and not failures(plan):
            return plan


class RightPlaces(unittest.TestCase):
    def test_plans_without_failure(self):
        kinds = {}
        for seed in range(120):
            dice = Dice(seed)
            plan = drawn_right_plan(dice)
            for step in plan:
                kinds[step.kind] = kinds.get(step.kind, 0) + 1
            for _ in range(12):
                world = drawn_world(dice, plan, 1 + dice.below(4), 4, 2 + dice.below(4))
                self.assertFalse(ends_otherwise(plan, world, dice), (seed, str(plan)))
        self.assertEqual(len(kinds), 17)

    def test_plans_with_failures(self):
        """For nearly all of them a wrong run is found by chance, with as few rows as are told."""
        broken = all_of_them = 0
        for seed in range(120):
            dice = Dice(seed)
            plan = drawn_plan(dice, 6)
            found = failures(plan)
            if found:
                all_of_them += 1
                most = 2 if found[0].rank == 3 else 1
                worlds = (drawn_world(dice, plan, 2, most, 2 + dice.below(3)) for _ in range(400))
                broken += any(ends_otherwise(plan, world, dice) for world in worlds)
        self.assertGreater(all_of_them, 60)
        self.assertGreater(broken, all_of_them * 9 // 10)

    def test_keys_make_a_plan_right(self):
        table = Table("a", ["a1", "a2"])
        for key, right in (((), False), (("a1",), True), (("a2",), False)):
            plan = Plan(scan(table.with_key(*key)).group_by("a1", n="count").gather())
            self.assertEqual(failures(plan) == [], right)
            dice = Dice(1)
            wrong = [ends_otherwise(plan, drawn_world(dice, plan, 2, 3, 3), dice) for _ in range(60)]
            self.assertEqual(any(wrong), not right)
