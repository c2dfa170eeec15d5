"""Menus and placings: point 31."""

import unittest

from splitplans.errors import InvalidMenu, InvalidPlan
from splitplans.fewest import fewest, placed
from splitplans.plans import Plan, scan
from splitplans.tables import Table

from helpers import fault

A = Table("a", ["k", "x"])
B = Table("b", ["j", "y"])
C = Table("c", ["h", "z"])
D = Table("d", ["d1"])
GATHER, BROADCAST, SPLIT = ("gather",), ("broadcast",), ("split", "r", ("k",))


def both(plan, menu):
    """The fault of fewest, and whether placed has the same one."""
    found = fault(fewest, plan, menu)
    assert fault(placed, plan, menu, {}) == found
    return found


class Menus(unittest.TestCase):
    def setUp(self):
        self.plan = Plan(scan(A))

    def test_good_ones(self):
        many = [("split", "r", (column,)) for column in ("k", "x", "k1", "k2", "k3", "k4")]
        for menu in ([GATHER], [GATHER, BROADCAST, SPLIT], many + [GATHER, BROADCAST],
                     [("split", "k", ("k", "x", "y"))], [SPLIT, ("split", "q", ("k",)), ("split", "r", ("k", "x"))]):
            self.assertEqual(both(self.plan, menu), None, menu)

    def test_count(self):
        many = [("split", "r", (f"k{at}",)) for at in range(9)]
        self.assertEqual(both(self.plan, []), ("InvalidMenu", 0, "count"))
        self.assertEqual(both(self.plan, many), ("InvalidMenu", 0, "count"))
        self.assertEqual(both(self.plan, many[:8]), None)
        # Checked before the entries.
        self.assertEqual(both(self.plan, [None] * 9), ("InvalidMenu", 0, "count"))

    def test_form(self):
        wrong = [None, (), [], "gather", ["gather"], ("gather", "r"), ("broadcast", ()), ("merge", ("k",)), ("own", "r", ("k",)),
                 ("split",), ("split", "r"), ("split", "r", ()), ("split", "r", ["k"]), ("split", "r", "k"),
                 ("split", "r", ("k",), 1), ["split", "r", ("k",)], ("split", "R", ("k",)), ("split", "sum", ("k",)),
                 ("split", 1, ("k",)), ("split", "", ("k",)), ("split", "r", ("K",)), ("split", "r", (1,)),
                 ("split", "r", (None,)), ("split", "r", ("k", "k")), ("split", "r", ("k", "x", "y", "z")),
                 ("split", "r", (("k",),)), ("split", "r", (["k"],)), ("split", ("r",), ("k",)), ("Gather",), 0, {}]
        for entry in wrong:
            self.assertEqual(both(self.plan, [entry]), ("InvalidMenu", 0, "form"), entry)
            self.assertEqual(both(self.plan, [GATHER, SPLIT, entry]), ("InvalidMenu", 2, "form"), entry)

    def test_twice(self):
        self.assertEqual(both(self.plan, [GATHER, GATHER]), ("InvalidMenu", 1, "twice"))
        self.assertEqual(both(self.plan, [SPLIT, GATHER, ("split", "r", ("k",))]), ("InvalidMenu", 2, "twice"))
        # The first entry at which something is wrong, and its form first.
        self.assertEqual(both(self.plan, [GATHER, GATHER, None]), ("InvalidMenu", 1, "twice"))
        self.assertEqual(both(self.plan, [GATHER, None, GATHER, None]), ("InvalidMenu", 1, "form"))
        self.assertEqual(both(self.plan, [None, None]), ("InvalidMenu", 0, "form"))


class PlansToPlaceUpon(unittest.TestCase):
    def test_good_ones(self):
        eight = scan(A)
        for at in range(7):
            eight = eight.where(f"p{at}", "k")
        two_antis = scan(A).anti_with(scan(B), [("k", "j")]).anti_with(scan(C), [("k", "h")])
        one_of_each = scan(A).anti_with(scan(B), [("k", "j")]) + scan(C)
        for root in (eight, two_antis, one_of_each, scan(A) + scan(B)):
            self.assertEqual(both(Plan(root), [GATHER]), None)

    def test_wrong_ones(self):
        nine = scan(A)
        for at in range(8):
            nine = nine.where(f"p{at}", "k")
        two_unions = scan(A) + scan(B) + scan(C)
        mixed = scan(A).anti_with(scan(B), [("k", "j")]).anti_with(scan(C), [("k", "h")]).keep("k") + scan(D)
        for root in (nine, two_unions, mixed):
            self.assertEqual(both(Plan(root), [GATHER]), ("InvalidPlan", 0, "placed"))
        self.assertEqual(both(Plan(scan(A).sort_by("k"), ["k"]), [GATHER]), ("InvalidPlan", 0, "placed"))

    def test_the_first_exchange_or_own(self):
        a = scan(A)
        for step in (a.gather(), a.broadcast(), a.split_by("r", "k"), a.own_by("r", "k")):
            self.assertEqual(both(Plan(step), [GATHER]), ("InvalidPlan", 2, "placed"))
        merge = a.sort_by("k").merge_by("k")
        self.assertEqual(both(Plan(merge), [GATHER]), ("InvalidPlan", 3, "placed"))
        self.assertEqual(both(Plan(a.own_by("r", "k").gather()), [GATHER]), ("InvalidPlan", 2, "placed"))
        self.assertEqual(both(Plan(a.gather().own_by("r", "k")), [GATHER]), ("InvalidPlan", 2, "placed"))
        joined = a.join_with(scan(B).gather(), [("k", "j")]).own_by("r", "k")
        self.assertEqual(both(Plan(joined, ["k"]), [GATHER]), ("InvalidPlan", 3, "placed"))

    def test_several_at_once(self):
        many = scan(A).gather()
        for at in range(8):
            many = many.where(f"p{at}", "k")
        plan = Plan(many, ["k"])
        self.assertEqual(both(plan, [GATHER]), ("InvalidPlan", 2, "placed"))
        # The plan is checked before the menu, and both before the placing.
        for menu in ([], [None], [GATHER] * 2):
            self.assertEqual(both(plan, menu), ("InvalidPlan", 2, "placed"))
            self.assertEqual(fault(placed, Plan(scan(A)), menu, {9: (5, 5)})[0], "InvalidMenu")
        self.assertEqual(fault(placed, plan, [GATHER], {9: (5, 5)}), ("InvalidPlan", 2, "placed"))


class Placed(unittest.TestCase):
    def setUp(self):
        root = scan(A).join_with(scan(B), [("k", "j")]).group_by("k", n="count")
        self.plan = Plan(root)
        self.menu = [SPLIT, ("split", "q", ("j", "y")), GATHER, BROADCAST, ("split", "r", ("n",))]

    def rows(self, at):
        return str(placed(self.plan, self.menu, at)).split("\n")[2:]

    def fault(self, at):
        return fault(placed, self.plan, self.menu, at)

    def test_nothing(self):
        for at in ({}, {1: (None, None)}, {edge: (None, None) for edge in range(1, 5)}):
            self.assertEqual(placed(self.plan, self.menu, at), self.plan)

    def test_own_and_exchange(self):
        self.assertEqual(self.rows({1: (0, None)})[:3], ["1 scan a", "2 own 1 r k", "3 scan b"])
        self.assertEqual(self.rows({2: (None, 1)})[1:4], ["2 scan b", "3 split 2 q j y", "4 join 1 3 k j"])
        self.assertEqual(self.rows({3: (1, 2)})[2:6], ["3 join 1 2 k j", "4 own 3 q j y", "5 gather 4",
                                                      "6 group 5 k with n count"])
        self.assertEqual(self.rows({4: (0, 3)})[3:], ["4 group 3 k with n count", "5 own 4 r k", "6 broadcast 5", "answer"])

    def test_several_edges(self):
        wanted = """table a k x anyhow
table b j y anyhow
1 scan a
2 split 1 r k
3 scan b
4 own 3 q j y
5 split 4 q j y
6 join 2 5 k j
7 own 6 r k
8 group 7 k with n count
9 gather 8
answer"""
        at = {1: (None, 0), 2: (1, 1), 3: (0, None), 4: (None, 2)}
        self.assertEqual(str(placed(self.plan, self.menu, at)), wanted)
        turned = {edge: at[edge] for edge in (4, 2, 3, 1)}
        self.assertEqual(str(placed(self.plan, self.menu, turned)), wanted)

    def test_the_most_that_can_be_put_in(self):
        eight = scan(A)
        for at in range(7):
            eight = eight.where(f"p{at}", "k")
        full = placed(Plan(eight), [SPLIT], {edge: (0, 0) for edge in range(1, 9)})
        self.assertEqual((len(full), len(full.exchanges)), (24, 8))

    def test_edges_that_are_no_steps(self):
        for edge in (0, -1, 5, 99):
            self.assertEqual(self.fault({edge: (None, None)}), ("InvalidPlan", edge, "number"))

    def test_indexes_that_are_no_entries(self):
        for index in (-1, 5, 99, -5):
            self.assertEqual(self.fault({1: (index, None)}), ("InvalidMenu", index, "edge"))
            self.assertEqual(self.fault({1: (None, index)}), ("InvalidMenu", index, "edge"))

    def test_entries_that_do_not_fit(self):
        self.assertEqual(self.fault({1: (None, 1)}), ("InvalidMenu", 1, "edge"))
        self.assertEqual(self.fault({2: (0, None)}), ("InvalidMenu", 0, "edge"))
        self.assertEqual(self.fault({1: (1, 0)}), ("InvalidMenu", 1, "edge"))
        # A measure, though the group has it; a column that only the join has.
        self.assertEqual(self.fault({4: (None, 4)}), ("InvalidMenu", 4, "edge"))
        self.assertEqual(self.fault({4: (4, None)}), ("InvalidMenu", 4, "edge"))
        self.assertEqual(self.fault({4: (None, 1)}), ("InvalidMenu", 1, "edge"))
        self.assertEqual(self.fault({3: (1, 1)}), None)
        # An own is by a split.
        for index in (2, 3):
            self.assertEqual(self.fault({1: (index, None)}), ("InvalidMenu", index, "edge"))
            self.assertEqual(self.fault({1: (None, index)}), None)

    def test_the_first_fault(self):
        self.assertEqual(self.fault({2: (0, None), 1: (1, None)}), ("InvalidMenu", 1, "edge"))
        self.assertEqual(self.fault({1: (9, 8)}), ("InvalidMenu", 9, "edge"))
        self.assertEqual(self.fault({1: (0, 8), 9: (None, None)}), ("InvalidMenu", 8, "edge"))
        self.assertEqual(self.fault({9: (None, None), 0: (9, 9)}), ("InvalidPlan", 0, "number"))
        self.assertEqual(self.fault({4: (9, None), 9: (None, None)}), ("InvalidMenu", 9, "edge"))

    def test_nothing_that_is_passed_changes(self):
        at = {3: (None, 2), 1: (0, 0)}
        menu = list(self.menu)
        text = str(self.plan)
        placed(self.plan, menu, at)
        fewest(self.plan, menu)
        self.assertEqual((list(at), menu, str(self.plan)), ([3, 1], self.menu, text))
        self.assertEqual(at, {3: (None, 2), 1: (0, 0)})

    def test_errors(self):
        with self.assertRaises(InvalidMenu):
            placed(self.plan, [], {})
        with self.assertRaises(InvalidPlan):
            placed(self.plan, self.menu, {7: (None, None)})
