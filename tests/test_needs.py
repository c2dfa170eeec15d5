"""Needs, strict and loose steps, collapses: point 14."""

import unittest

from splitplans.needs import collapsed, collapses, needs, strict
from splitplans.plans import Plan, scan
from splitplans.tables import Table

SET = ("set",)
ROWS = ("rows", ())


def base(name):
    return scan(Table(name, [f"{name}{at}" for at in (1, 2, 3)]))


def counted(name, **measures):
    """A group of a table by its first column, with the measures n (a count) and s (a sum)."""
    return base(name).group_by(f"{name}1", **measures or {f"{name}n": "count", f"{name}s": ("sum", f"{name}2")})


def needed(root, order=()):
    """The needs in number order."""
    found = needs(Plan(root, order))
    return [found[number] for number in range(1, len(found) + 1)]


def rows(*measures):
    return ("rows", measures)


def parts(*measures):
    return ("parts", measures)


class Needs(unittest.TestCase):
    def test_root(self):
        self.assertEqual(needed(base("a")), [ROWS])
        self.assertEqual(needed(counted("a")), [ROWS, rows("an", "as")])

    def test_steps_with_the_same_need(self):
        step = counted("a")
        for over in (step.compute("x", "f", "a1"), step.keep("a1", "an", "as"), step.sort_by("a1"),
                     step.own_by("r", "a1"), step.split_by("r", "a1"), step.broadcast(), step.gather(),
                     step.merge_by("a1"), step.where("p", "a1")):
            self.assertEqual(needed(over), [ROWS, rows("an", "as"), rows("an", "as")])
        two = base("a").equal("a1", "a2").split_by("r", "a1")
        self.assertEqual(needed(two), [ROWS, ROWS, ROWS])
        self.assertEqual(needed(two.distinct()), [SET, SET, SET, ROWS])

    def test_same_need_of_sums(self):
        step = counted("a", an="count").split_by("r", "a1").sort_by("a1").merge_by("a1")
        self.assertEqual(needed(step.group_by("a1", s=("sum", "an"))),
                         [ROWS] + [parts("an")] * 4 + [rows("s")])

    def test_keep(self):
        self.assertEqual(needed(counted("a").keep("as", "an")), [ROWS, rows("an", "as"), rows("as", "an")])
        self.assertEqual(needed(counted("a").keep("as")), [ROWS, rows("as"), rows("as")])
        self.assertEqual(needed(counted("a").keep("a1")), [SET, ROWS, ROWS])

    def test_where(self):
        whole = counted("a").keep("as", "a1").where("p", "a1", "as").keep("a1")
        self.assertEqual(needed(whole), [ROWS, rows("as"), rows("as"), ROWS, ROWS])
        plain = counted("a").where("p", "a1").keep("a1", "an")
        self.assertEqual(needed(plain), [ROWS, rows("an"), rows("an"), rows("an")])
        both = counted("a").where("p", "a1", "an", "as").group_by("a1", s=("sum", "an"))
        self.assertEqual(needed(both), [ROWS, rows("an", "as"), parts("an"), rows("s")])
        loose = base("a").where("p", "a1").distinct()
        self.assertEqual(needed(loose), [SET, SET, ROWS])

    def test_semi_and_anti(self):
        for over in (counted("a").semi_with(counted("b"), [("a1", "b1")]),
                     counted("a").anti_with(counted("b"), [("a1", "b1")])):
            self.assertEqual(needed(over), [ROWS, rows("an", "as"), SET, SET, rows("an", "as")])
            self.assertEqual(needed(over.group_by("a1", s=("sum", "as"))),
                             [ROWS, parts("as"), SET, SET, parts("as"), rows("s")])
            self.assertEqual(needed(over.keep("a1").distinct()), [SET, SET, SET, SET, SET, SET, ROWS])

    def test_exchanges_in_right_sides(self):
        right = base("b").split_by("r", "b1").semi_with(base("c").gather(), [("b1", "c1")]).broadcast()
        found = needed(base("a").anti_with(right, [("a1", "b1")]))
        self.assertEqual(found, [ROWS] + [SET] * 6 + [ROWS])

    def test_join(self):
        joined = counted("a").join_with(counted("b"), [("a1", "b1")])
        self.assertEqual(needed(joined),
                         [ROWS, rows("an", "as"), ROWS, rows("bn", "bs"), rows("an", "as", "bn", "bs")])
        self.assertEqual(needed(joined.keep("bs", "a1", "an")),
                         [ROWS, rows("an"), ROWS, rows("bs"), rows("an", "bs"), rows("bs", "an")])
        self.assertEqual(needed(joined.keep("a1").distinct()), [SET] * 6 + [ROWS])

    def test_join_of_measures_of_one_side(self):
        left = counted("a").join_with(base("b"), [("a1", "b1")])
        self.assertEqual(needed(left), [ROWS, rows("an", "as"), ROWS, rows("an", "as")])
        right = base("b").join_with(counted("a"), [("b1", "a1")])
        self.assertEqual(needed(right), [ROWS, ROWS, rows("an", "as"), rows("an", "as")])
        two = counted("a").join_with(counted("b"), [("a1", "b1")])
        self.assertEqual(needed(two.keep("as")), [ROWS, rows("as"), SET, ROWS, rows("as"), rows("as")])
        self.assertEqual(needed(two.keep("bs")), [SET, ROWS, ROWS, rows("bs"), rows("bs"), rows("bs")])

    def test_join_of_parts(self):
        joined = counted("a").join_with(counted("b"), [("a1", "b1")])
        self.assertEqual(needed(joined.group_by("a1", s=("sum", "as"), n=("sum", "an"))),
                         [ROWS, parts("an", "as"), SET, ROWS, parts("an", "as"), rows("s", "n")])
        self.assertEqual(needed(joined.group_by("a1", s=("sum", "bs"))),
                         [SET, ROWS, ROWS, parts("bs"), parts("bs"), rows("s")])
        self.assertEqual(needed(joined.group_by("a1", s=("sum", "bs"), n=("sum", "an"))),
                         [ROWS, rows("an"), ROWS, rows("bs"), parts("an", "bs"), rows("s", "n")])

    def test_union(self):
        union = counted("a").keep("a1", "an", "as") + base("b").group_by("b1", "b2", bs=("sum", "b3"))
        self.assertEqual(union.measures, ["an", "as"])
        self.assertEqual(needed(union), [ROWS, rows("an", "as"), rows("an", "as"), ROWS, rows("bs"), rows("an", "as")])
        self.assertEqual(needed(union.group_by("a1", s=("sum", "as"))),
                         [ROWS, parts("as"), parts("as"), ROWS, parts("bs"), parts("as"), rows("s")])
        self.assertEqual(needed(union.group_by("a1", s=("sum", "as"), n=("sum", "an"))),
                         [ROWS, parts("an", "as"), parts("an", "as"), ROWS, rows("bs"), parts("an", "as"),
                          rows("s", "n")])
        self.assertEqual(needed(union.group_by("a1", s=("sum", "an"))),
                         [ROWS, parts("an"), parts("an"), SET, ROWS, parts("an"), rows("s")])
        self.assertEqual(needed(union.keep("a1").distinct()), [SET] * 7 + [ROWS])

    def test_union_goes_by_positions(self):
        left = base("a").group_by("a1", x="count", y=("sum", "a2")).keep("y", "x", "a1")
        right = base("b").group_by("b1", y="count", x=("sum", "b2")).keep("b1", "y", "x")
        union = left + right
        self.assertEqual(union.measures, ["y", "x", "a1"])
        self.assertEqual(needed(union.keep("x")), [ROWS, rows("x"), rows("x"), ROWS, rows("y"), rows("y"),
                                                   rows("x"), rows("x")])
        self.assertEqual(needed(union.keep("a1")), [SET, ROWS, ROWS, ROWS, rows("x"), rows("x"),
                                                    rows("a1"), rows("a1")])

    def test_distinct(self):
        self.assertEqual(needed(base("a").distinct()), [SET, ROWS])
        self.assertEqual(needed(base("a").distinct().distinct()), [SET, SET, ROWS])

    def test_group(self):
        step = base("a")
        self.assertEqual(needed(step.group_by("a1")), [SET, ROWS])
        self.assertEqual(needed(step.group_by("a1", n="count")), [ROWS, rows("n")])
        self.assertEqual(needed(step.group_by("a1", s=("sum", "a1"))), [ROWS, rows("s")])
        self.assertEqual(needed(step.group_by("a1", n="count").keep("a1")), [SET, ROWS, ROWS])
        self.assertEqual(needed(step.group_by("a1", n="count").keep("a1").distinct()), [SET, SET, SET, ROWS])

    def test_group_of_measures(self):
        step = counted("a")
        self.assertEqual(needed(step.group_by("a1", s=("sum", "as"))), [ROWS, parts("as"), rows("s")])
        self.assertEqual(needed(step.group_by("a1", s=("sum", "as"), t=("sum", "as"))),
                         [ROWS, parts("as"), rows("s", "t")])
        self.assertEqual(needed(step.group_by(s=("sum", "as"), t=("sum", "an"))),
                         [ROWS, parts("an", "as"), rows("s", "t")])
        self.assertEqual(needed(step.group_by("a1", s=("sum", "as"), n="count")), [ROWS, rows("as"), rows("s", "n")])
        self.assertEqual(needed(step.group_by("a1", s=("sum", "as"), p=("sum", "a1"))),
                         [ROWS, rows("as"), rows("s", "p")])
        self.assertEqual(needed(step.group_by("a1", n="count")), [SET, ROWS, rows("n")])

    def test_a_measure_that_nothing_sums(self):
        step = base("a").group_by("a1", c=("sum", "a2"), o="count", n="count")
        self.assertEqual(needed(step.group_by("a1", x="count", y=("sum", "n"))), [ROWS, rows("n"), rows("x", "y")])

    def test_group_with_measures_that_are_not_asked_for(self):
        step = counted("a").group_by("a1", s=("sum", "as"), n="count", p=("sum", "a1"))
        self.assertEqual(needed(step.keep("s")), [ROWS, parts("as"), rows("s"), rows("s")])
        self.assertEqual(needed(step.keep("n")), [SET, ROWS, rows("n"), rows("n")])
        self.assertEqual(needed(step.keep("s", "p")), [ROWS, rows("as"), rows("s", "p"), rows("s", "p")])

    def test_group_in_parts(self):
        step = counted("a").split_by("r", "a1").group_by("a1", m=("sum", "as")).gather().group_by(t=("sum", "m"))
        self.assertEqual(needed(step), [ROWS, parts("as"), parts("as"), parts("m"), parts("m"), rows("t")])
        step = base("a").group_by("a1", n="count").group_by("a1", m=("sum", "n"))
        self.assertEqual(needed(step), [ROWS, parts("n"), rows("m")])

    def test_a_dict(self):
        found = needs(Plan(base("a").gather()))
        self.assertEqual(found, {1: ROWS, 2: ROWS})
        found.clear()
        self.assertEqual(needs(Plan(base("a").gather())), {1: ROWS, 2: ROWS})


class Collapses(unittest.TestCase):
    def test_strict(self):
        plan = Plan(counted("a").group_by("a1", s=("sum", "as")).semi_with(base("b").gather(), [("a1", "b1")]))
        self.assertEqual([strict(plan, number) for number in range(1, 7)], [True, True, True, False, False, True])
        self.assertIs(strict(plan, 2), True)
        self.assertIs(strict(plan, 4), False)

    def collapsing(self, root):
        return collapses(Plan(root))

    def test_distinct(self):
        self.assertEqual(self.collapsing(base("a").distinct()), [2])
        self.assertEqual(self.collapsing(base("a").distinct().distinct()), [3])

    def test_group(self):
        self.assertEqual(self.collapsing(counted("a")), [2])
        self.assertEqual(self.collapsing(counted("a").group_by("a1", s=("sum", "as"))), [3])
        self.assertEqual(self.collapsing(counted("a").group_by("a1", n="count")), [2, 3])
        self.assertEqual(self.collapsing(counted("a").keep("a1")), [2])
        self.assertEqual(self.collapsing(base("a").group_by("a1").group_by("a1", n=("sum", "a1"))), [2, 3])

    def test_semi(self):
        self.assertEqual(self.collapsing(base("a").semi_with(base("b"), [("a1", "b1")])), [3])
        self.assertEqual(self.collapsing(base("a").semi_with(base("b"), [("a1", "b1")]).distinct()), [4])
        in_parts = counted("a").semi_with(base("b"), [("a1", "b1")]).group_by("a1", s=("sum", "as"))
        self.assertEqual(self.collapsing(in_parts), [4, 5])
        self.assertEqual(self.collapsing(base("a").anti_with(base("b").distinct(), [("a1", "b1")])), [])
        inner = base("b").semi_with(base("c"), [("b1", "c1")])
        self.assertEqual(self.collapsing(base("a").semi_with(inner, [("a1", "b1")])), [5])

    def test_collapsed(self):
        plan = Plan(base("a").keep("a3", "a1").distinct().group_by("a1", "a3", n="count").semi_with(
            base("b").distinct(), [("a3", "b2"), ("a1", "b1"), ("a1", "b2")]))
        self.assertEqual(collapsed(plan, 3), (2, ["a3", "a1"]))
        self.assertEqual(collapsed(plan, 4), (3, ["a1", "a3"]))
        self.assertEqual(collapsed(plan, 6), (5, ["b1", "b2", "b3"]))
        self.assertEqual(collapsed(plan, 7), (6, ["b2", "b1", "b2"]))
        self.assertEqual(collapses(plan), [3, 4, 7])
        self.assertEqual(collapsed(Plan(base("a").group_by(n="count")), 2), (1, []))

    def test_what_was_returned_may_be_changed(self):
        plan = Plan(base("a").group_by("a1", n="count"))
        collapsed(plan, 2)[1].append("a2")
        collapses(plan).clear()
        self.assertEqual((collapsed(plan, 2), collapses(plan)), ((1, ["a1"]), [2]))
        self.assertEqual(str(plan).split("\n")[2], "2 group 1 a1 with n count")
        distinct = Plan(base("a").distinct())
        collapsed(distinct, 2)[1].clear()
        self.assertEqual(collapsed(distinct, 2), (1, ["a1", "a2", "a3"]))
