"""The fewest exchanges: point 32."""

import itertools
import unittest

from splitplans.fewcheck import shows_no_fewer
from splitplans.fewest import ClosedTable, Placing, fewest, placed
from splitplans.menus import fits, fits_as_own
from splitplans.places import failures
from splitplans.plans import Plan, scan
from splitplans.runs import judge
from splitplans.tables import Table

from helpers import Dice
from planmaker import drawn_menu, drawn_small_plan

A = Table("a", ["k", "x"])
B = Table("b", ["j", "y"])
C = Table("c", ["h", "z"])
DEALT_A = A.with_lie(("dealt", "r", ("k",)))
DEALT_B = B.with_lie(("dealt", "r", ("j",)))
COPIED_C = C.with_lie(("copied",))
ZERO_A, ZERO_B = A.with_lie(("zero",)), B.with_lie(("zero",))
GATHER, BROADCAST = ("gather",), ("broadcast",)


def split(*columns, rule="r"):
    return ("split", rule, columns)


def least_cost(plan, menu):
    """The least cost by going through all placings one by one; None if none is right."""
    options = []
    for number in range(1, len(plan) + 1):
        indexes = range(len(menu))
        owns = [None] + [index for index in indexes if fits_as_own(plan[number], menu[index])]
        exchanges = [None] + [index for index in indexes if fits(plan[number], menu[index])]
        options.append(list(itertools.product(owns, exchanges)))
    costs = [sum(exchange is not None for _, exchange in told) for told in itertools.product(*options)
             if not failures(placed(plan, menu, dict(enumerate(told, 1))))]
    return min(costs, default=None)


def how_many_placings(plan, menu):
    many = 1
    for step in plan:
        many *= 1 + sum(fits_as_own(step, entry) for entry in menu)
        many *= 1 + sum(fits(step, entry) for entry in menu)
    return many


class Fewest(unittest.TestCase):
    def cost(self, root, *menu):
        """The least cost, with all that must hold of the placing."""
        plan = root if isinstance(root, Plan) else Plan(root)
        menu = list(menu)
        found = fewest(plan, menu)
        self.assertIsInstance(found, Placing)
        self.assertIsInstance(found.table, ClosedTable)
        self.assertTrue(shows_no_fewer(plan, menu, found.table, found.cost))
        if found.cost is None:
            self.assertEqual((found.at, found.plan), (None, None))
            return None
        self.assertEqual(found.plan, placed(plan, menu, found.at))
        self.assertNotEqual(judge(found.plan).paper, None)
        self.assertEqual(sum(exchange is not None for _, exchange in found.at.values()), found.cost)
        self.assertEqual(len(found.plan.exchanges), found.cost)
        return found.cost

    def test_right_as_they_are(self):
        for root in (scan(ZERO_A), scan(COPIED_C), scan(COPIED_C).distinct(), scan(ZERO_A).group_by("k", n="count"),
                     scan(ZERO_A).join_with(scan(COPIED_C), [("k", "h")]), scan(ZERO_A) + scan(ZERO_B)):
            self.assertEqual(self.cost(root, BROADCAST), 0)
            self.assertEqual(fewest(Plan(root), [BROADCAST]).at, {})

    def test_one(self):
        self.assertEqual(self.cost(scan(A), GATHER), 1)
        self.assertEqual(fewest(Plan(scan(A)), [split("k"), GATHER]).at, {1: (None, 1)})
        self.assertEqual(self.cost(scan(A).group_by("k", n="count"), GATHER), 1)
        self.assertEqual(self.cost(scan(DEALT_A).join_with(scan(DEALT_B), [("k", "j")]), GATHER), 1)
        self.assertEqual(self.cost(scan(A).join_with(scan(ZERO_B), [("k", "j")]), GATHER), 1)
        self.assertEqual(self.cost(scan(A).join_with(scan(ZERO_B), [("k", "j")]), BROADCAST), 1)
        self.assertEqual(self.cost(scan(A).semi_with(scan(COPIED_C), [("k", "h")]), GATHER), 1)

    def test_two(self):
        root = scan(A).join_with(scan(B), [("k", "j")])
        self.assertEqual(self.cost(root, GATHER), 2)
        self.assertEqual(self.cost(root, GATHER, BROADCAST, split("k"), split("j")), 2)
        self.assertEqual(self.cost(root, split("k"), split("j"), BROADCAST), 2)
        self.assertEqual(self.cost(root, split("k"), split("j")), None)
        # What is dealt by the split's own rule needs no split.
        dealt = scan(DEALT_A).join_with(scan(B), [("k", "j")])
        self.assertEqual(self.cost(dealt, split("j"), GATHER), 2)

    def test_three(self):
        root = scan(A).join_with(scan(B), [("k", "j")]).join_with(scan(C), [("x", "h")])
        self.assertEqual(self.cost(root, GATHER), 3)
        self.assertEqual(self.cost(root, GATHER, split("k"), split("j")), 3)
        self.assertEqual(self.cost(root, split("k"), split("j")), None)

    def test_an_own_that_saves_an_exchange(self):
        """Rows of a copied table wait for two antis; kept where both are right, they go on at once."""
        root = scan(COPIED_C).anti_with(scan(DEALT_A), [("h", "k")]).anti_with(scan(DEALT_B), [("h", "j")])
        self.assertEqual(self.cost(root, GATHER), 2)
        self.assertEqual(self.cost(root, GATHER, split("h")), 1)
        placing = fewest(Plan(root), [GATHER, split("h")])
        self.assertEqual([step.kind for step in placing.plan].count("own"), 1)
        # Another rule, or another column, is no help.
        self.assertEqual(self.cost(root, GATHER, split("h", rule="q")), 2)
        self.assertEqual(self.cost(root, GATHER, split("z")), 2)

    def test_an_own_below_a_gather(self):
        both = scan(COPIED_C).keep("h") + scan(DEALT_A).keep("k")
        self.assertEqual(self.cost(both, GATHER), 1)
        at = {1: (1, None), 5: (None, 0)}
        self.assertEqual(failures(placed(Plan(both), [GATHER, split("h")], at)), [])
        at = {5: (None, 0)}
        self.assertNotEqual(failures(placed(Plan(both), [GATHER, split("h")], at)), [])

    def test_none_that_helps(self):
        self.assertEqual(self.cost(scan(A), split("k")), None)
        self.assertEqual(self.cost(scan(A), split("h")), None)
        self.assertEqual(self.cost(scan(A).join_with(scan(ZERO_B), [("k", "j")]), split("k"), split("j")), None)

    def test_broadcast(self):
        """A table that is everywhere is at worker 0, too."""
        root = scan(ZERO_A).join_with(scan(B), [("k", "j")])
        self.assertEqual(self.cost(root, BROADCAST), 1)
        self.assertEqual(fewest(Plan(root), [BROADCAST]).at, {2: (None, 0)})

    def test_keys_and_equals(self):
        counted = scan(DEALT_A).group_by("x", n="count")
        self.assertEqual(self.cost(counted, GATHER), 1)
        self.assertEqual(fewest(Plan(counted), [GATHER]).at, {1: (None, 0)})
        keyed = scan(DEALT_A.with_key("x")).group_by("x", n="count")
        self.assertEqual(self.cost(keyed, GATHER), 1)
        joined = scan(DEALT_A).join_with(scan(DEALT_B), [("x", "y")])
        self.assertEqual(self.cost(joined, GATHER), 2)
        self.assertEqual(self.cost(joined.equal("k", "j"), GATHER), 1)

    def test_keys_make_two_rows_one(self):
        """Where each group is one row, all rows may be gathered behind the union at once."""
        for table, wanted in ((A, 2), (A.with_key("x"), 1), (A.with_key("x", "k"), 2), (A.with_key("k"), 2)):
            self.assertEqual(self.cost(scan(table).group_by("x", n="count") + scan(B), GATHER), wanted)

    def test_counts_in_parts(self):
        root = scan(A).group_by("k", n="count").group_by("k", m=("sum", "n"))
        self.assertEqual(self.cost(root, GATHER), 1)
        self.assertEqual(self.cost(root, split("k"), GATHER), 1)

    def test_entries_that_fit_no_edge(self):
        self.assertEqual(self.cost(scan(A), split("q"), split("k", "h"), GATHER), 1)
        self.assertEqual(self.cost(scan(A), split("q")), None)
        measured = scan(A).group_by("k", n="count")
        self.assertEqual(self.cost(measured, split("n"), GATHER), 1)

    def test_the_menu_in_another_order(self):
        root = scan(A).join_with(scan(DEALT_B), [("k", "j")]).anti_with(scan(COPIED_C), [("x", "h")])
        menu = [split("k"), GATHER, BROADCAST, split("j", rule="q")]
        costs = {self.cost(root, *turned) for turned in itertools.permutations(menu)}
        self.assertEqual(len(costs), 1)

    def test_other_names(self):
        text = "table a k x anyhow\ntable b j y dealt r j\n1 scan a\n2 scan b\n3 join 1 2 k j\nanswer"
        self.assertEqual(self.cost(Plan.read(text), split("k"), GATHER), 2)
        for a, b in (("z", "y"), ("b1", "b0"), ("j", "x")):
            other = text.replace("table a", f"table {a}").replace("scan a", f"scan {a}")
            other = other.replace("table b", f"table {b}").replace("scan b", f"scan {b}")
            self.assertEqual(self.cost(Plan.read(other), split("k"), GATHER), 2)
        self.assertEqual(self.cost(Plan.read(text.replace("k", "zz")), split("zz"), GATHER), 2)

    def test_unions(self):
        root = (scan(A) + scan(B)).group_by("k", n="count")
        self.assertEqual(self.cost(root, GATHER), 1)
        self.assertEqual(self.cost(scan(ZERO_A) + scan(B), GATHER), 1)
        self.assertEqual(fewest(Plan(scan(ZERO_A) + scan(B)), [GATHER]).at in ({2: (None, 0)}, {3: (None, 0)}), True)

    def test_an_anti_in_one_choice(self):
        zero_c = C.with_lie(("zero",))
        self.assertEqual(self.cost(scan(ZERO_A) + scan(ZERO_B).anti_with(scan(zero_c), [("j", "h")]), GATHER), 0)
        self.assertEqual(self.cost(scan(ZERO_A) + scan(ZERO_B).anti_with(scan(C), [("j", "h")]), GATHER), 1)
        self.assertEqual(self.cost(scan(ZERO_A).anti_with(scan(zero_c), [("k", "h")]) + scan(B), GATHER), 1)

    def test_antis(self):
        root = scan(COPIED_C).anti_with(scan(A), [("h", "k")]).anti_with(scan(B), [("h", "j")])
        self.assertEqual(self.cost(root, GATHER), 2)
        self.assertEqual(self.cost(root, BROADCAST), 2)
        self.assertEqual(self.cost(root, split("k"), split("j"), split("h")), None)
        self.assertEqual(self.cost(root, split("k"), split("j"), split("h"), GATHER), 2)

    def test_asked_again(self):
        """It answers alike, whatever became of what it returned before."""
        plan = Plan(scan(A).join_with(scan(B), [("k", "j")]).group_by("k", n="count"))
        menu = [GATHER, split("k"), split("j")]
        first = fewest(plan, menu)
        cost, at, text = first.cost, dict(first.at), str(first.plan)
        table = first.table
        copy = [dict(table.numberings), dict(table.pairs), {n: list(table.made[n]) for n in table.made},
                {n: list(table.sent[n]) for n in table.sent}]
        numberings = {key: dict(copy[0][key]) for key in copy[0]}
        pairs = {key: dict(copy[1][key]) for key in copy[1]}
        first.at.clear()
        for each in list(table.numberings.values()) + list(table.pairs.values()):
            each.clear()
        for each in list(table.made.values()) + list(table.sent.values()):
            each.clear()
        for each in (table.numberings, table.pairs, table.made, table.sent):
            each.clear()
        second = fewest(plan, menu)
        self.assertEqual((second.cost, second.at, str(second.plan)), (cost, at, text))
        self.assertEqual((second.table.numberings, second.table.pairs), (numberings, pairs))
        self.assertEqual((second.table.made, second.table.sent), (copy[2], copy[3]))

    def test_all_placings_one_by_one(self):
        costs = {}
        for seed in range(260):
            dice = Dice(seed)
            plan = drawn_small_plan(dice, 4)
            menu = drawn_menu(dice, plan)
            if how_many_placings(plan, menu) <= 200:
                cost = self.cost(plan, *menu)
                self.assertEqual(cost, least_cost(plan, menu), (seed, str(plan), menu))
                costs[cost] = costs.get(cost, 0) + 1
        self.assertGreater(min(costs.get(cost, 0) for cost in (None, 0, 1, 2)), 5)

    def test_larger_plans(self):
        for seed in range(100):
            dice = Dice(seed)
            plan = drawn_small_plan(dice, 7)
            self.cost(plan, *drawn_menu(dice, plan, 8))
