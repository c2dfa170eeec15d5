"""Reports: point 34."""

import unittest

from splitplans.needs import needs
from splitplans.places import states
from splitplans.plans import Plan, scan
from splitplans.reports import report
from splitplans.stories import Story, choices
from splitplans.tables import Table

from helpers import Dice
from planmaker import drawn_plan

A = Table("a", ["k", "x"])
B = Table("b", ["j", "y"], lies=("copied",))
C = Table("c", ["h", "z"], lies=("dealt", "r", ("h",)))
ZERO = Table("o", ["o1", "o2"], lies=("zero",))


def rows(root, order=()):
    return report(Plan(root, order)).split("\n")


class Reports(unittest.TestCase):
    def test_the_example(self):
        text = ("table t k c anyhow\n1 scan t\n2 group 1 k with n count\n3 split 2 r k\n4 group 3 k with m sum n\n"
                "5 gather 4\nanswer")
        self.assertEqual(report(Plan.read(text)).split("\n"), [
            "choice -",
            " 1 scan t                   rows   at @t",
            " 2 group 1 k with n count   parts  at @t",
            " 3 split 2 r k              parts  at r[t.k]",
            " 4 group 3 k with m sum n   rows   at r[t.k]",
            " 5 gather 4                 rows   at 0"])

    def test_one_step(self):
        self.assertEqual(report(Plan(scan(A))), "choice -\n 1 scan a                   rows   at @a")
        self.assertEqual(rows(scan(A), ["k"]), ["choice -", " 1 scan a                   rows   at @a"])

    def test_each_kind(self):
        root = scan(ZERO).where("p", "o1").compute("n", "f", "o1", "o2").equal("o1", "n").keep("n", "o1").distinct()
        root = root.sort_by("n", "o1").merge_by("n").own_by("r", "n").broadcast().split_by("q", "n", "o1").gather()
        self.assertEqual(rows(root), [
            "choice -",
            " 1 scan o                   set    at 0",
            " 2 where 1 p o1             set    at 0",
            " 3 compute 2 n f o1 o2      set    at 0",
            " 4 equal 3 o1 n             set    at 0",
            " 5 keep 4 n o1              set    at 0",
            " 6 distinct 5               rows   at 0",
            " 7 sort 6 n o1              rows   at 0",
            " 8 merge 7 n                rows   at 0",
            " 9 own 8 r n                rows   at 0",
            "10 broadcast 9              rows   everywhere",
            "11 split 10 q n o1          rows   at q[f(o.o1, o.o2), o.o1]",
            "12 gather 11                rows   at 0"])

    def test_two_inputs_and_wants(self):
        root = scan(B).anti_with(scan(C), [("j", "h")]).anti_with(scan(A), [("y", "k")]).semi_with(scan(ZERO), [("j", "o1")])
        self.assertEqual(rows(root), [
            "choice -",
            " 1 scan b                   rows   everywhere",
            " 2 scan c                   set    at r[c.h]",
            " 3 anti 1 2 j h             rows   everywhere, wants 3 r[c.h]",
            " 4 scan a                   set    at @a",
            " 5 anti 3 4 y k             rows   everywhere, wants 3 r[c.h], 5 @a",
            " 6 scan o                   set    at 0",
            " 7 semi 5 6 j o1            rows   at 0"])

    def test_long_rows(self):
        root = scan(A).group_by("k", number1="count", number2=("sum", "x"), number3=("sum", "k"))
        self.assertEqual(rows(root)[2], " 2 group 1 k with number1 count number2 sum x number3 sum k rows   at @a")
        exact = scan(Table("o", ["abcdefg", "hijklmn", "op"])).keep("abcdefg", "hijklmn", "op")
        self.assertEqual(rows(exact)[2], " 2 keep 1 abcdefg hijklmn op rows   at @o")
        self.assertEqual(len("keep 1 abcdefg hijklm op"), 24)
        exact = scan(Table("o", ["abcdefg", "hijklm", "op"])).keep("abcdefg", "hijklm", "op")
        self.assertEqual(rows(exact)[2], " 2 keep 1 abcdefg hijklm op rows   at @o")

    def test_one_union(self):
        root = (scan(A) + scan(B)).join_with(scan(C), [("k", "h")]).gather()
        self.assertEqual(rows(root), [
            "choice left",
            " 1 scan a                   rows   at @a",
            " 3 union 1 2                rows   at @a",
            " 4 scan c                   rows   at r[c.h]",
            " 5 join 3 4 k h             rows   at @a",
            " 6 gather 5                 rows   at 0",
            "choice right",
            " 2 scan b                   rows   everywhere",
            " 3 union 1 2                rows   everywhere",
            " 4 scan c                   rows   at r[c.h]",
            " 5 join 3 4 k h             rows   at r[c.h]",
            " 6 gather 5                 rows   at 0"])

    def test_two_unions(self):
        found = rows(scan(A) + scan(B) + scan(C))
        self.assertEqual([row for row in found if row.startswith("choice")],
                         ["choice left left", "choice left right", "choice right left", "choice right right"])
        self.assertEqual(found[-3:], ["choice right right", " 4 scan c                   rows   at r[c.h]",
                                      " 5 union 3 4                rows   at r[c.h]"])

    def test_states_behind_failures(self):
        root = scan(B).gather().own_by("r", "j").anti_with(scan(A).own_by("q", "x"), [("j", "k")])
        self.assertEqual([row[28:] for row in rows(root)[1:]],
                         ["rows   everywhere", "rows   at 0", "rows   at 0", "set    at @a", "set    at @a", "rows   at 0"])

    def test_drawn_plans(self):
        for seed in range(80):
            plan = drawn_plan(Dice(seed), 14)
            known, wanted = states(plan), needs(plan)
            text = str(plan).split("\n")
            found = []
            for choice in choices(plan):
                found.append("choice " + (" ".join(choice) or "-"))
                for number in Story(plan, choice).met:
                    row = text[len(plan.tables) + number - 1].partition(" ")[2]
                    found.append(str(number).rjust(2) + " " + row.ljust(24) + " " + wanted[number][0].ljust(6) + " "
                                 + str(known[number, choice]))
            self.assertEqual(report(plan), "\n".join(found))
