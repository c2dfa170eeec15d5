"""The whole program: points 1, 2, 25 and 30."""

import unittest

from splitplans.desk import Desk
from splitplans.fewcheck import shows_no_fewer
from splitplans.fewest import fewest, placed
from splitplans.machine import Drawn, First, Last, Machine
from splitplans.needs import collapsed, collapses, needs
from splitplans.orders import broken_claim, claim_facts, claims
from splitplans.papercheck import shows_right
from splitplans.papers import Line, Paper, paper_of
from splitplans.places import failures, states
from splitplans.plain import plain
from splitplans.plans import Plan, scan
from splitplans.reports import report
from splitplans.runs import Run, breaks, judge, run_of
from splitplans.stories import choices, fitting, pair_facts
from splitplans.tables import Table

from helpers import Dice
from planmaker import drawn_menu, drawn_mended_plan, drawn_small_plan, drawn_world

A = Table("a", ["k", "x"])
B = Table("b", ["j", "y"], lies=("dealt", "r", ("j",)))
ROOT = (scan(A).split_by("r", "k") + scan(B)).group_by("k", n="count").sort_by("k").merge_by("k")


def shown(plan):
    """All that is returned for a plan, written out."""
    paper = paper_of(plan)
    run = run_of(plan)
    found = [str(plan), report(plan), str(needs(plan)), collapses(plan), choices(plan), claims(plan), broken_claim(plan)]
    found.append(sorted((place, str(state)) for place, state in states(plan).items()))
    found.append([(failure.kind, failure.number, failure.choice) for failure in failures(plan)])
    if paper is not None:
        found.append([(line.number, line.choice, str(line.state), len(line.reasons)) for line in paper])
        found.append(written(paper.cases))
        found.append(shows_right(plan, paper))
    if run is not None:
        found.append((run.moves, [run.world.rows_of(table.name) for table in plan.tables], breaks(plan, run)))
    return found


def written(thing):
    if isinstance(thing, (list, tuple)):
        return [written(part) for part in thing]
    return str(thing)


class CallersOwn(unittest.TestCase):
    def test_what_was_returned_is_changed_between_two_calls(self):
        broken = Plan(scan(A).sort_by("k").gather(), ["k"])
        failing = Plan(scan(A).group_by("k", n="count").gather())
        for plan in (Plan(ROOT, ["k"]), broken, failing):
            before = shown(plan)
            for found in (needs(plan), states(plan), failures(plan), choices(plan), claims(plan), collapses(plan)):
                found.clear()
            for number in collapses(plan):
                collapsed(plan, number)[1].clear()
                for choice in choices(plan):
                    fitting(plan, choice, number).clear()
                    pair_facts(plan, choice, number, choice).clear()
            for claim in claims(plan):
                claim_facts(plan, *claim).clear()
            verdict = judge(plan)
            if verdict.paper is not None:
                for line in verdict.paper:
                    for reason in line.reasons:
                        reason[-1].clear()
                    line.reasons.clear()
                for part in [part for case in verdict.paper.cases for part in case if isinstance(part, list)]:
                    part.clear()
                verdict.paper.lines.clear()
                verdict.paper.cases.clear()
            else:
                verdict.run.moves.clear()
                verdict.run.world.workers = 9
                verdict.run.world.rows_of("a").clear()
            self.assertEqual(shown(plan), before)

    def test_lists_and_dicts_that_were_passed(self):
        plan = Plan(ROOT, ["k"])
        paper = paper_of(plan)
        lines = [Line(line.number, line.choice, line.state, line.reasons) for line in paper]
        cases = list(paper.cases)
        copy = Paper(lines, cases)
        lines.clear()
        cases.clear()
        for line in paper:
            line.reasons.clear()
        self.assertTrue(shows_right(plan, copy))
        small = Plan(scan(A).join_with(scan(B), [("k", "j")]))
        menu = [("gather",), ("split", "r", ("k",))]
        placing = fewest(small, menu)
        at = dict(placing.at)
        menu.clear()
        self.assertEqual(str(placing.plan), str(placed(small, [("gather",), ("split", "r", ("k",))], at)))

    def test_arguments_stay_as_they_are(self):
        plan = Plan(ROOT, ["k"])
        paper = paper_of(plan)
        before = written([(line.number, line.choice, line.state, line.reasons) for line in paper]), written(paper.cases)
        for _ in range(2):
            self.assertTrue(shows_right(plan, paper))
        after = written([(line.number, line.choice, line.state, line.reasons) for line in paper]), written(paper.cases)
        self.assertEqual(before, after)
        small = Plan(scan(A).join_with(scan(B), [("k", "j")]))
        menu = [("gather",), ("split", "r", ("k",))]
        placing = fewest(small, menu)
        table = placing.table
        told = written([list(table.made.items()), list(table.sent.items())]), str(table.numberings), str(table.pairs)
        for cost in (0, 1, 2, None):
            shows_no_fewer(small, menu, table, cost)
        self.assertEqual(
            (written([list(table.made.items()), list(table.sent.items())]), str(table.numberings), str(table.pairs)), told)
        self.assertEqual(menu, [("gather",), ("split", "r", ("k",))])
        deeds = [("key", "a", ["k"]), ("put", 1, ("gather",))]
        Desk(small).try_all(deeds)
        self.assertEqual(deeds, [("key", "a", ["k"]), ("put", 1, ("gather",))])
        run = run_of(small)
        world, moves = run.world, list(run.moves)
        self.assertTrue(breaks(small, run))
        self.assertEqual((run.world, run.moves), (world, moves))


class DrawnPlans(unittest.TestCase):
    def test_right_or_not_whatever_the_moves_are(self):
        """A paper or a run, never both; and no run of a plan with a paper ends otherwise."""
        papers = runs = 0
        for seed in range(1000, 1160):
            dice = Dice(seed)
            plan = drawn_mended_plan(dice, 9)
            verdict = judge(plan)
            self.assertEqual((verdict.paper is None) + (verdict.run is None), 1)
            if verdict.run is not None:
                runs += 1
                self.assertTrue(breaks(plan, verdict.run), seed)
                continue
            papers += 1
            self.assertTrue(shows_right(plan, verdict.paper), seed)
            for _ in range(3):
                world = drawn_world(dice, plan, 1 + dice.below(4), 4, 2 + dice.below(3))
                wanted = sorted(plain(plan, world))
                for chooser in (First(), Last(), Drawn([dice.below(60) for _ in range(7)])):
                    machine = Machine(plan, world)
                    moves = machine.play(chooser)
                    self.assertEqual(sorted(machine.answer()), wanted, seed)
                    self.assertFalse(breaks(plan, Run(world, moves)), seed)
        self.assertGreater(min(papers, runs), 30)

    def test_fewest_exchanges_make_a_plan_right(self):
        for seed in range(2000, 2060):
            dice = Dice(seed)
            plan = drawn_small_plan(dice, 6)
            menu = drawn_menu(dice, plan, 4)
            placing = fewest(plan, menu)
            if judge(plan).paper is not None:
                self.assertEqual(placing.cost, 0)
            if placing.plan is not None:
                self.assertTrue(Desk(placing.plan).is_right())
            self.assertTrue(shows_no_fewer(plan, menu, placing.table, placing.cost))
