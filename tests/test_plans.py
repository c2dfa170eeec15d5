"""Plans: point 13, and equal plans of point 18."""

import unittest

from splitplans.plans import Plan, scan
from splitplans.tables import Table

from helpers import fault


def base(name):
    """A scan of a table with the columns name1 and name2."""
    return scan(Table(name, [f"{name}1", f"{name}2"]))


def longer(step, many):
    """The step with so many steps more."""
    for _ in range(many):
        step = step.gather()
    return step


def bad(root, order=()):
    return fault(Plan, root, order)


class Numbers(unittest.TestCase):
    def setUp(self):
        left = base("a").where("p", "a1").join_with(base("b").split_by("r", "b1"), [("a1", "b1")])
        right = base("c").semi_with(base("d"), [("c1", "d1")]).gather()
        self.root = left.anti_with(right, [("a1", "c1")]).keep("a1", "b2") + base("e").broadcast()
        self.plan = Plan(self.root, ["b2"])

    def test_postorder(self):
        kinds = "scan where scan split join scan scan semi gather anti keep scan broadcast union"
        self.assertEqual([step.kind for step in self.plan], kinds.split())
        self.assertEqual([step.kind for step in self.plan.steps], kinds.split())
        self.assertEqual(len(self.plan), 14)
        self.assertEqual([self.plan[number].kind for number in range(1, 15)], kinds.split())
        self.assertIs(self.plan[14], self.root)
        self.assertIs(self.plan.root, self.root)

    def test_attributes(self):
        plan = self.plan
        self.assertEqual([table.name for table in plan.tables], ["a", "b", "c", "d", "e"])
        self.assertEqual((plan.exchanges, plan.unions, plan.antis, plan.order), ([4, 9, 13], [14], [10], ["b2"]))
        for thing in (plan.steps, plan.tables, plan.exchanges, plan.unions, plan.antis, plan.order):
            self.assertIsInstance(thing, list)
        small = Plan(base("a"))
        self.assertEqual((small.exchanges, small.unions, small.antis, small.order, len(small)), ([], [], [], [], 1))
        self.assertEqual((Plan.MOST_STEPS, Plan.MOST_TABLES, Plan.MOST_UNIONS, Plan.MOST_ANTIS), (24, 5, 2, 2))

    def test_inputs_and_above(self):
        inputs = [[], [1], [], [3], [2, 4], [], [], [6, 7], [8], [5, 9], [10], [], [12], [11, 13]]
        self.assertEqual([self.plan.inputs_of(number) for number in range(1, 15)], inputs)
        above = [2, 5, 4, 5, 10, 8, 8, 9, 10, 11, 14, 13, 14, 0]
        self.assertEqual([self.plan.above(number) for number in range(1, 15)], above)

    def test_below(self):
        below = {1: [], 2: [1], 5: [1, 2, 3, 4], 8: [6, 7], 9: [6, 7, 8], 10: list(range(1, 10)), 13: [12],
                 14: list(range(1, 14))}
        for number, numbers in below.items():
            self.assertEqual(self.plan.below(number), numbers)

    def test_numbers_that_are_no_step(self):
        for number in (0, 15, -1, -14, 10 ** 30):
            self.assertNotIn(number, self.plan)
            for call in (lambda at: self.plan[at], self.plan.inputs_of, self.plan.above, self.plan.below):
                self.assertEqual(fault(call, number), ("InvalidPlan", number, "number"))
        for number in range(1, 15):
            self.assertIn(number, self.plan)
        for thing in (None, "1", self.root, (1,)):
            self.assertNotIn(thing, self.plan)

    def test_what_was_returned_may_be_changed(self):
        self.plan.inputs_of(5).clear()
        self.plan.below(5).append(77)
        self.assertEqual((self.plan.inputs_of(5), self.plan.below(5)), ([2, 4], [1, 2, 3, 4]))

    def test_the_order_is_copied(self):
        order = ["b2"]
        plan = Plan(self.root, order)
        order.append("a1")
        self.assertEqual((plan.order, str(plan) == str(self.plan)), (["b2"], True))


class TooMany(unittest.TestCase):
    def test_steps(self):
        self.assertEqual(len(Plan(longer(base("a"), 23))), 24)
        self.assertEqual(bad(longer(base("a"), 24)), ("TooMany", 24))
        self.assertEqual(bad(longer(base("a"), 3000)), ("TooMany", 24))

    def test_a_step_that_stands_there_very_often(self):
        step = base("a").keep("a1")
        for _ in range(200):
            step = step + step
        self.assertEqual(bad(step), ("TooMany", 24))

    def test_scans(self):
        step = base("a")
        for name in "bcde":
            step = step.join_with(base(name), [("a1", f"{name}1")])
        self.assertEqual(len(Plan(step).tables), 5)
        six = step.join_with(base("f"), [("a1", "f1")])
        self.assertEqual(bad(six), ("TooMany", 5))
        self.assertEqual(bad(longer(six, 13)), ("TooMany", 5))
        self.assertEqual(bad(longer(six, 14)), ("TooMany", 24))

    def test_unions(self):
        self.assertEqual(Plan(base("a") + base("b") + base("c")).unions, [3, 5])
        three = base("a") + base("b") + base("c") + base("d")
        self.assertEqual(bad(three), ("TooMany", 2))
        six = three.semi_with(base("e"), [("a1", "e1")]).semi_with(base("f"), [("a1", "f1")])
        self.assertEqual(bad(six), ("TooMany", 5))

    def test_antis(self):
        step = base("a")
        for name in "bc":
            step = step.anti_with(base(name), [("a1", f"{name}1")])
        self.assertEqual(Plan(step).antis, [3, 5])
        three = step.anti_with(base("d"), [("a1", "d1")])
        self.assertEqual(bad(three), ("TooMany", 2))
        unions = (base("a") + base("b")) + (base("c") + base("d"))
        for name in "abc":
            unions = unions.anti_with(base(name), [("a1", f"{name}1")])
        self.assertEqual(bad(unions), ("TooMany", 5))

    def test_they_go_before_the_other_errors(self):
        same = base("a") + base("a")
        self.assertEqual(bad(same), ("InvalidPlan", 2, "table"))
        self.assertEqual(bad(same + base("b") + base("c")), ("TooMany", 2))
        self.assertEqual(bad(longer(same, 21), ["z"]), ("InvalidPlan", 2, "table"))
        self.assertEqual(bad(longer(same, 22), ["z"]), ("TooMany", 24))


class Faults(unittest.TestCase):
    def test_table(self):
        other = scan(Table("a", ["x"], lies=("copied",)))
        self.assertEqual(bad(base("a").semi_with(other, [("a1", "x")])), ("InvalidPlan", 2, "table"))
        step = base("a").gather()
        self.assertEqual(bad(step + step), ("InvalidPlan", 3, "table"))
        self.assertIsNone(bad(scan(Table("a", ["b"])) + scan(Table("b", ["a"]))))

    def test_test(self):
        self.assertEqual(bad(base("a").where("p", "a1").where("p", "a2")), ("InvalidPlan", 3, "test"))
        twice = base("a").where("p", "a1") + base("b").where("p", "b1")
        self.assertEqual(bad(twice), ("InvalidPlan", 4, "test"))
        self.assertIsNone(bad(base("a").where("p", "a1").where("q", "a1")))

    def test_functions_and_rules_may_stand_again(self):
        step = base("a").compute("x", "f", "a1").compute("y", "f", "a1").where("f", "x")
        self.assertIsNone(bad(step.own_by("f", "x").split_by("f", "y").split_by("r", "y").own_by("r", "x")))

    def test_anti(self):
        inner = base("b").anti_with(base("c"), [("b1", "c1")])
        self.assertEqual(bad(base("a").anti_with(inner, [("a1", "b1")])), ("InvalidPlan", 4, "anti"))
        self.assertEqual(bad(base("a").anti_with(inner.gather(), [("a1", "b1")])), ("InvalidPlan", 4, "anti"))
        joined = base("d").join_with(inner, [("d1", "b1")])
        self.assertEqual(bad(base("a").anti_with(joined, [("a1", "d1")])), ("InvalidPlan", 5, "anti"))
        self.assertIsNone(bad(base("a").semi_with(inner, [("a1", "b1")])))
        self.assertIsNone(bad(inner.anti_with(base("a"), [("b1", "a1")])))
        self.assertIsNone(bad(inner.join_with(base("a").anti_with(base("d"), [("a1", "d1")]), [("b1", "a1")])))

    def test_loose(self):
        counted = base("a").group_by("a1", n="count").where("p", "a1", "n")
        self.assertIsNone(bad(counted))
        self.assertEqual(bad(base("b").semi_with(counted, [("b1", "a1")])), ("InvalidPlan", 4, "loose"))
        self.assertEqual(bad(base("b").anti_with(counted, [("b1", "a1")])), ("InvalidPlan", 4, "loose"))
        self.assertEqual(bad(counted.keep("a1").distinct()), ("InvalidPlan", 3, "loose"))
        self.assertEqual(bad(counted.group_by("a1")), ("InvalidPlan", 3, "loose"))
        self.assertIsNone(bad(counted.group_by("a1", m=("sum", "n"))))
        self.assertIsNone(bad(counted.semi_with(base("b"), [("a1", "b1")])))
        plain = base("a").group_by("a1", n="count").where("p", "a1").keep("a1").distinct()
        self.assertIsNone(bad(plain))

    def test_the_first_step_goes_first(self):
        step = base("a").where("p", "a1").where("p", "a1").gather().merge_by("a1")
        self.assertEqual(bad(step, ["z"]), ("InvalidPlan", 3, "test"))
        self.assertEqual(bad(base("a").merge_by("a1").where("p", "a1").where("p", "a1")), ("InvalidPlan", 2, "merge"))
        inner = base("b").anti_with(base("a"), [("b1", "a1")])
        self.assertEqual(bad(base("a").anti_with(inner, [("a1", "b1")])), ("InvalidPlan", 3, "table"))

    def test_two_reasons_at_one_step(self):
        counted = base("a").group_by("a1", n="count").where("p", "a1", "n").where("p", "a1", "n")
        root = base("b").semi_with(counted, [("b1", "a1")])
        self.assertEqual(bad(root), ("InvalidPlan", 5, "test"))
        counted = base("a").where("p", "a1").group_by("a1", n="count").where("p", "a1", "n")
        root = base("b").semi_with(counted, [("b1", "a1")])
        self.assertEqual(bad(root), ("InvalidPlan", 5, "test"))

    def test_order(self):
        root = scan(Table("t", ["a", "b", "c", "d"])).group_by("a", "b", "c", "d", n="count")
        for order in ([], ["d"], ["b", "a"], ("c", "a", "b")):
            self.assertEqual(Plan(root, order).order, list(order))
        for order in (["a", "b", "c", "d"], ["z"], ["n"], ["a", "n"], ["a", "a"], ["a", "b", "a"], ["a", "z"]):
            self.assertEqual(bad(root, order), ("InvalidPlan", 2, "order"))
        self.assertEqual(bad(root.keep("a"), ["b"]), ("InvalidPlan", 3, "order"))
        self.assertEqual(bad(root.merge_by("b"), ["z"]), ("InvalidPlan", 3, "merge"))


class Merges(unittest.TestCase):
    def setUp(self):
        self.table = scan(Table("t", ["a", "b", "c"]))
        self.sorted = self.table.sort_by("a", "b")

    def holds(self, step, *columns):
        self.assertIsNone(bad(step.merge_by(*columns)))

    def fails(self, step, *columns):
        root = step.merge_by(*columns)
        fit = fault(Plan, root)
        self.assertIsNotNone(fit)
        self.assertEqual((fit[0], fit[2]), ("InvalidPlan", "merge"))

    def test_over_a_sort(self):
        self.holds(self.sorted, "a", "b")
        self.holds(self.sorted, "a")
        for columns in (("b",), ("b", "a"), ("a", "b", "c"), ("a", "c"), ("c",)):
            self.fails(self.sorted, *columns)

    def test_over_a_group(self):
        group = self.table.group_by("c", "a", n="count")
        self.holds(group, "c", "a")
        self.holds(group, "c")
        self.fails(group, "a")
        self.fails(group, "a", "c")

    def test_over_a_distinct(self):
        self.holds(self.table.distinct(), "a")
        self.holds(self.table.distinct(), "a", "b", "c")
        self.fails(self.table.distinct(), "b")
        self.holds(self.table.keep("c", "a").distinct(), "c", "a")
        self.fails(self.table.keep("c", "a").distinct(), "a")

    def test_steps_that_keep_the_order(self):
        other = base("s")
        passing = [
            self.sorted.where("p", "c"), self.sorted.compute("x", "f", "c"), self.sorted.equal("b", "c"),
            self.sorted.keep("b", "a"), self.sorted.own_by("r", "c"), self.sorted.join_with(other, [("a", "s1")]),
            self.sorted.semi_with(other, [("a", "s1")]), self.sorted.anti_with(other, [("a", "s1")]),
            self.sorted.where("p", "c").own_by("r", "a").join_with(other, [("a", "s1")]).keep("a", "b", "s2"),
        ]
        for step in passing:
            self.holds(step, "a", "b")
            self.holds(step, "a")
            self.fails(step, "b")

    def test_steps_that_do_not(self):
        other = base("s")
        ordered = self.sorted
        for step in (self.table, ordered.split_by("r", "a"), ordered.gather(), ordered.broadcast(),
                     ordered.merge_by("a", "b"), ordered.keep("a", "b") + other,
                     other.join_with(ordered, [("s1", "a")]), other.keep("s1", "s2") + ordered.keep("a", "b")):
            columns = ("a",) if "a" in step.columns else ("s1",)
            self.fails(step, *columns)
        self.fails(other.semi_with(ordered, [("s1", "a")]), "s1")
        self.fails(other.sort_by("s1").join_with(ordered, [("s1", "a")]), "a")
        self.holds(other.sort_by("s1").join_with(ordered, [("s1", "a")]), "s1")

    def test_the_nearest_one_tells(self):
        self.fails(self.sorted.sort_by("b"), "a")
        self.holds(self.table.sort_by("b").sort_by("a"), "a")
        self.fails(self.sorted.distinct().sort_by("c"), "a")

    def test_a_column_that_is_computed_anew(self):
        anew = self.sorted.keep("b", "c").compute("a", "f", "b")
        self.fails(anew, "a")
        self.fails(anew.where("p", "a"), "a", "b")
        self.fails(self.table.sort_by("b", "a").keep("b", "c").compute("a", "f", "b"), "b", "a")
        self.holds(self.table.sort_by("b", "a").keep("b", "c").compute("a", "f", "b"), "b")
        self.fails(self.table.keep("b").sort_by("b").compute("a", "f", "b"), "a")
        self.fails(self.table.keep("b").sort_by("b").compute("a", "f", "b"), "b", "a")

    def test_its_number(self):
        root = self.table.merge_by("a").gather()
        self.assertEqual(bad(root), ("InvalidPlan", 2, "merge"))


class Equal(unittest.TestCase):
    def test_equal(self):
        def plan():
            return Plan(base("a").join_with(base("b").group_by("b1", n="count"), [("a1", "b1")]), ["a1"])
        self.assertEqual(plan(), plan())
        self.assertFalse(plan() != plan())
        others = [
            Plan(plan().root), Plan(plan().root, ["a2"]), Plan(plan().root.gather(), ["a1"]), Plan(base("a")),
            Plan(base("a").join_with(base("b").group_by("b1", m="count"), [("a1", "b1")]), ["a1"]),
            Plan(scan(Table("a", ["a1", "a2"], key=["a1"])).join_with(
                base("b").group_by("b1", n="count"), [("a1", "b1")]), ["a1"]),
        ]
        for other in others:
            self.assertNotEqual(plan(), other)

    def test_equal_to_no_other_thing(self):
        plan = Plan(base("a"))
        for other in (str(plan), None, 1, plan.root, plan.tables[0], plan.steps, []):
            self.assertFalse(plan == other)
            self.assertTrue(plan != other)
            self.assertFalse(other == plan)
