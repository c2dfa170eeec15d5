"""Stories and second stories: points 21 and 22, and the identity of point 27."""

import unittest

from splitplans.needs import collapses
from splitplans.plans import Plan, scan
from splitplans.stories import Story, choices, fitting, pair_facts
from splitplans.tables import Table

L, R = "left", "right"
BOTH = [(L, L), (L, R), (R, L), (R, R)]


def base(name, **more):
    """A scan of a table with the columns name1, name2, name3."""
    return scan(Table(name, [f"{name}1", f"{name}2", f"{name}3"], **more))


def texts(terms):
    return [None if term is None else term.text for term in terms]


def equalities(pairs):
    return [f"{left} = {right}" for left, right in pairs]


def terms(story, plan, number):
    """The texts of the terms of all columns of a step."""
    return texts([story.term_of(number, column) for column in plan[number].columns])


class Choices(unittest.TestCase):
    def test_no_union(self):
        plan = Plan(base("a"))
        self.assertEqual(choices(plan), [()])
        story = Story(plan, ())
        self.assertEqual((story.choice, story.met, story.tables), ((), [1], ["a"]))

    def test_one_union(self):
        plan = Plan((base("a") + base("b").gather()).distinct())
        self.assertEqual(choices(plan), [(L,), (R,)])
        self.assertEqual([Story(plan, choice).met for choice in choices(plan)], [[1, 4, 5], [2, 3, 4, 5]])
        self.assertEqual([Story(plan, choice).tables for choice in choices(plan)], [["a"], ["b"]])

    def test_one_union_within_another(self):
        plan = Plan(base("a") + (base("b") + base("c")))
        self.assertEqual(plan.unions, [4, 5])
        self.assertEqual(choices(plan), BOTH)
        self.assertEqual([Story(plan, choice).met for choice in BOTH], [[1, 5], [2, 4, 5], [1, 5], [3, 4, 5]])
        self.assertEqual([Story(plan, choice).tables for choice in BOTH], [["a"], ["b"], ["a"], ["c"]])

    def test_two_unions_beside_each_other(self):
        plan = Plan((base("a") + base("b")).join_with(base("c") + base("d"), [("a1", "c1")]))
        self.assertEqual(plan.unions, [3, 6])
        self.assertEqual([Story(plan, choice).met for choice in BOTH],
                         [[1, 3, 4, 6, 7], [1, 3, 5, 6, 7], [2, 3, 4, 6, 7], [2, 3, 5, 6, 7]])
        self.assertEqual([Story(plan, choice).tables for choice in BOTH],
                         [["a", "c"], ["a", "d"], ["b", "c"], ["b", "d"]])

    def test_what_was_returned_may_be_changed(self):
        plan = Plan(base("a") + base("b"))
        choices(plan).clear()
        self.assertEqual(choices(plan), [(L,), (R,)])


class Terms(unittest.TestCase):
    def test_each_step(self):
        step = base("a").compute("n", "f", "a2", "a1").compute("o", "g", "n")
        for over in (step.where("p", "a1"), step.equal("n", "o"), step.distinct(), step.sort_by("a1"), step.gather(),
                     step.own_by("r", "a1"), step.split_by("r", "o"), step.broadcast()):
            plan = Plan(over)
            self.assertEqual(terms(Story(plan, ()), plan, 4), ["a.a1", "a.a2", "a.a3", "f(a.a2, a.a1)", "g(f(a.a2, a.a1))"])
        plan = Plan(step.keep("o", "a1"))
        self.assertEqual(terms(Story(plan, ()), plan, 4), ["g(f(a.a2, a.a1))", "a.a1"])
        self.assertEqual(terms(Story(plan, ()), plan, 2), ["a.a1", "a.a2", "a.a3", "f(a.a2, a.a1)"])
        self.assertEqual(terms(Story(plan, ()), plan, 1), ["a.a1", "a.a2", "a.a3"])

    def test_measures(self):
        grouped = base("a").group_by("a2", "a1", n="count", a3=("sum", "a3"))
        plan = Plan(grouped.keep("n", "a1").where("p", "n", "a1"))
        story = Story(plan, ())
        self.assertEqual(terms(story, plan, 2), ["a.a2", "a.a1", None, None])
        self.assertEqual(terms(story, plan, 3), [None, "a.a1"])
        self.assertEqual(terms(story, plan, 4), [None, "a.a1"])

    def test_a_column_that_is_computed_anew(self):
        plan = Plan(base("a").keep("a1").compute("a2", "f", "a1").compute("a3", "f", "a2"))
        self.assertEqual(terms(Story(plan, ()), plan, 4), ["a.a1", "f(a.a1)", "f(f(a.a1))"])

    def test_joins(self):
        plan = Plan(base("a").join_with(base("b").compute("n", "f", "b1"), [("a1", "n")]))
        self.assertEqual(terms(Story(plan, ()), plan, 4), ["a.a1", "a.a2", "a.a3", "b.b1", "b.b2", "b.b3", "f(b.b1)"])
        for over in (base("a").semi_with(base("b"), [("a1", "b1")]), base("a").anti_with(base("b"), [("a1", "b1")])):
            plan = Plan(over)
            self.assertEqual(terms(Story(plan, ()), plan, 3), ["a.a1", "a.a2", "a.a3"])

    def test_equal_names_on_both_sides(self):
        plan = Plan(scan(Table("t", ["k", "c"])).semi_with(scan(Table("s", ["c", "k"])), [("k", "c")]))
        story = Story(plan, ())
        self.assertEqual((terms(story, plan, 2), terms(story, plan, 3)), (["s.c", "s.k"], ["t.k", "t.c"]))
        self.assertEqual(equalities(story.facts_at(())), ["t.k = s.c"])

    def test_unions(self):
        plan = Plan((base("a") + base("b").keep("b3", "b1", "b2")).compute("n", "f", "a2"))
        self.assertEqual(terms(Story(plan, (L,)), plan, 5), ["a.a1", "a.a2", "a.a3", "f(a.a2)"])
        self.assertEqual(terms(Story(plan, (R,)), plan, 5), ["b.b3", "b.b1", "b.b2", "f(b.b1)"])

    def test_union_of_a_measure_with_a_plain_column(self):
        plan = Plan(base("a").keep("a1", "a2") + base("b").group_by("b1", n="count"))
        for choice in choices(plan):
            self.assertIsNone(Story(plan, choice).term_of(5, "a2"))
        self.assertEqual(Story(plan, (L,)).term_of(2, "a2").text, "a.a2")
        self.assertEqual(Story(plan, (R,)).term_of(5, "a1").text, "b.b1")


class Levels(unittest.TestCase):
    def setUp(self):
        right = base("b").equal("b1", "b2").join_with(base("c"), [("b3", "c1"), ("b1", "c2")])
        left = base("a").equal("a1", "a2").semi_with(base("d"), [("a3", "d1")])
        self.plan = Plan(left.anti_with(right.split_by("r", "b1"), [("a1", "b3"), ("a2", "c3")]).equal("a3", "a1"))
        self.story = Story(self.plan, ())

    def test_levels(self):
        self.assertEqual([self.story.level_of(number) for number in range(1, 12)],
                         [(), (), (), ()] + [(10,)] * 5 + [(), ()])
        self.assertEqual(self.story.tables, ["a", "d"])
        self.assertEqual(self.story.met, list(range(1, 12)))

    def test_facts(self):
        outside = ["a.a1 = a.a2", "a.a3 = d.d1", "a.a3 = a.a1"]
        self.assertEqual(equalities(self.story.facts_at(())), outside)
        self.assertEqual(equalities(self.story.facts_at((10,))),
                         outside + ["a.a1 = b.b3", "a.a2 = c.c3", "b.b1 = b.b2", "b.b3 = c.c1", "b.b1 = c.c2"])

    def test_what_was_returned_may_be_changed(self):
        self.story.facts_at(()).clear()
        self.story.facts_at((10,)).clear()
        self.story.identity(4).clear()
        self.assertEqual((len(self.story.facts_at(())), len(self.story.facts_at((10,)))), (3, 8))
        self.assertEqual(texts(self.story.identity(4)), ["a"])

    def test_two_antis(self):
        plan = Plan(base("a").anti_with(base("b"), [("a1", "b1")]).anti_with(base("c").equal("c1", "c2"), [("a2", "c1")]))
        story = Story(plan, ())
        self.assertEqual([story.level_of(number) for number in range(1, 7)], [(), (3,), (), (6,), (6,), ()])
        self.assertEqual(equalities(story.facts_at((3,))), ["a.a1 = b.b1"])
        self.assertEqual(equalities(story.facts_at((6,))), ["a.a2 = c.c1", "c.c1 = c.c2"])
        self.assertEqual((story.facts_at(()), story.tables), ([], ["a"]))

    def test_an_anti_in_the_left_side_of_an_anti(self):
        inner = base("a").anti_with(base("b").equal("b1", "b2"), [("a1", "b1")])
        plan = Plan(inner.anti_with(base("c"), [("a1", "c1")]))
        story = Story(plan, ())
        self.assertEqual([story.level_of(number) for number in range(1, 7)], [(), (4,), (4,), (), (6,), ()])

    def test_unions_in_right_sides(self):
        right = base("b").equal("b1", "b2") + base("c").semi_with(base("d"), [("c1", "d1")])
        plan = Plan(base("a").anti_with(right, [("a1", "b2"), ("a2", "b1")]))
        self.assertEqual(plan.unions, [7])
        left, right = Story(plan, (L,)), Story(plan, (R,))
        self.assertEqual((left.met, right.met), ([1, 2, 3, 7, 8], [1, 4, 5, 6, 7, 8]))
        self.assertEqual(equalities(left.facts_at((8,))), ["a.a1 = b.b2", "a.a2 = b.b1", "b.b1 = b.b2"])
        self.assertEqual(equalities(right.facts_at((8,))), ["a.a1 = c.c2", "a.a2 = c.c1", "c.c1 = d.d1"])
        self.assertEqual((left.tables, right.tables), (["a"], ["a"]))

    def test_facts_of_steps_that_are_not_met(self):
        plan = Plan(base("a").equal("a1", "a2") + base("b").join_with(base("c"), [("b1", "c1")]).keep("b1", "b2", "c3"))
        self.assertEqual(equalities(Story(plan, (L,)).facts_at(())), ["a.a1 = a.a2"])
        self.assertEqual(equalities(Story(plan, (R,)).facts_at(())), ["b.b1 = c.c1"])

    def test_facts_above_a_union(self):
        plan = Plan((base("a") + base("b").keep("b2", "b3", "b1")).equal("a1", "a3"))
        self.assertEqual(equalities(Story(plan, (L,)).facts_at(())), ["a.a1 = a.a3"])
        self.assertEqual(equalities(Story(plan, (R,)).facts_at(())), ["b.b2 = b.b1"])

    def test_table_keys(self):
        keyed = base("a", key=["a2", "a1"]).join_with(base("b"), [("a1", "b1")])
        plan = Plan(keyed.anti_with(base("c", key=["c3"]), [("a1", "c1")]))
        story = Story(plan, ())
        self.assertEqual(story.table_keys(), {"a": ["a2", "a1"], "c": ["c3"]})
        story.table_keys()["a"].clear()
        self.assertEqual(story.table_keys(), {"a": ["a2", "a1"], "c": ["c3"]})
        self.assertEqual(Story(Plan(base("b")), ()).table_keys(), {})


class Identities(unittest.TestCase):
    def identity(self, root, choice=()):
        plan = Plan(root)
        return texts(Story(plan, choice).identity(len(plan)))

    def test_rows(self):
        step = base("a")
        self.assertEqual(self.identity(step), ["a"])
        for over in (step.where("p", "a1"), step.compute("n", "f", "a1"), step.equal("a1", "a2"), step.keep("a1"),
                     step.sort_by("a1"), step.own_by("r", "a1"), step.split_by("r", "a1"), step.broadcast(),
                     step.gather(), step.sort_by("a1").merge_by("a1"), step.semi_with(base("b"), [("a1", "b1")]),
                     step.anti_with(base("b"), [("a1", "b1")])):
            self.assertEqual(self.identity(over), ["a"])

    def test_joins(self):
        joined = base("b").join_with(base("a"), [("b1", "a1")])
        self.assertEqual(self.identity(joined), ["b", "a"])
        self.assertEqual(self.identity(base("c").join_with(joined.gather(), [("c1", "b1")])), ["c", "b", "a"])

    def test_distinct_and_group(self):
        self.assertEqual(self.identity(base("a").keep("a3", "a1").distinct()), ["a.a3", "a.a1"])
        self.assertEqual(self.identity(base("a").group_by("a2", "a1", n="count").gather()), ["a.a2", "a.a1"])
        self.assertEqual(self.identity(base("a").group_by(n="count")), [])
        joined = base("a").group_by("a1").join_with(base("b"), [("a1", "b1")])
        self.assertEqual(self.identity(joined), ["a.a1", "b"])

    def test_unions(self):
        union = base("a") + base("b").distinct()
        self.assertEqual(self.identity(union.gather(), (L,)), ["a"])
        self.assertEqual(self.identity(union.gather(), (R,)), ["b.b1", "b.b2", "b.b3"])


class Fitting(unittest.TestCase):
    def test_without_unions(self):
        plan = Plan(base("a").distinct())
        self.assertEqual(fitting(plan, (), 2), [()])

    def test_inside(self):
        plan = Plan((base("a") + base("b")).distinct())
        self.assertEqual(fitting(plan, (L,), 4), [(L,), (R,)])
        self.assertEqual(fitting(plan, (R,), 4), [(L,), (R,)])
        plan = Plan((base("a") + base("b")).gather().group_by("a1", n="count"))
        self.assertEqual(fitting(plan, (R,), 5), [(L,), (R,)])

    def test_outside(self):
        plan = Plan((base("a") + base("b").distinct()).gather())
        self.assertEqual(collapses(plan), [3])
        self.assertEqual(fitting(plan, (R,), 3), [(R,)])

    def test_inside_and_outside(self):
        plan = Plan((base("a") + base("b")).distinct() + base("c"))
        self.assertEqual(plan.unions, [3, 6])
        for choice in ((L, L), (R, L)):
            self.assertEqual(fitting(plan, choice, 4), [(L, L), (R, L)])
        plan = Plan((base("a") + (base("b") + base("c")).distinct()).gather())
        self.assertEqual(plan.unions, [4, 6])
        for choice in ((L, R), (R, R)):
            self.assertEqual(fitting(plan, choice, 5), [(L, R), (R, R)])

    def test_both_inside(self):
        plan = Plan((base("a") + base("b") + base("c")).distinct())
        for choice in BOTH:
            self.assertEqual(fitting(plan, choice, 6), BOTH)

    def test_semi(self):
        semi = (base("a") + base("b")).semi_with(base("c") + base("d"), [("a1", "c1")])
        plan = Plan(semi)
        for choice in BOTH:
            self.assertEqual(fitting(plan, choice, 7), [(choice[0], L), (choice[0], R)])

    def test_a_union_of_another_side(self):
        plan = Plan(base("a").distinct().join_with(base("b") + base("c"), [("a1", "b1")]))
        self.assertEqual(fitting(plan, (L,), 2), [(L,)])
        self.assertEqual(fitting(plan, (R,), 2), [(R,)])


class PairFacts(unittest.TestCase):
    def test_distinct(self):
        plan = Plan(base("a").equal("a1", "a2").keep("a2", "a3").distinct())
        self.assertEqual(equalities(pair_facts(plan, (), 4, ())),
                         ["a.a1 = a.a2", "a'.a1 = a'.a2", "a.a2 = a'.a2", "a.a3 = a'.a3"])

    def test_facts_above_count_for_the_first_one_alone(self):
        step = base("a").join_with(base("b"), [("a1", "b1")]).group_by("a2", "b2", n="count").equal("b2", "a2")
        plan = Plan(step)
        self.assertEqual(equalities(pair_facts(plan, (), 4, ())),
                         ["a.a1 = b.b1", "b.b2 = a.a2", "a'.a1 = b'.b1", "a.a2 = a'.a2", "b.b2 = b'.b2"])

    def test_semi(self):
        step = base("a").equal("a1", "a2").semi_with(base("b").equal("b1", "b3"), [("a1", "b2"), ("a2", "b1"), ("a3", "b2")])
        plan = Plan(step)
        self.assertEqual(equalities(pair_facts(plan, (), 5, ())),
                         ["a.a1 = a.a2", "b.b1 = b.b3", "a.a1 = b.b2", "a.a2 = b.b1", "a.a3 = b.b2",
                          "b'.b1 = b'.b3", "b.b2 = b'.b2", "b.b1 = b'.b1", "b.b2 = b'.b2"])

    def test_the_collapsed_input_itself(self):
        plan = Plan(base("a").compute("n", "f", "a1").equal("n", "a2").group_by("n", m="count"))
        self.assertEqual(equalities(pair_facts(plan, (), 4, ())),
                         ["f(a.a1) = a.a2", "f(a'.a1) = a'.a2", "f(a.a1) = f(a'.a1)"])

    def test_unions(self):
        union = base("a").equal("a1", "a2") + base("b").equal("b2", "b3")
        plan = Plan(union.equal("a3", "a1").group_by("a2", n="count"))
        self.assertEqual(equalities(pair_facts(plan, (L,), 7, (R,))),
                         ["a.a1 = a.a2", "a.a3 = a.a1", "b'.b2 = b'.b3", "b'.b3 = b'.b1", "a.a2 = b'.b2"])
        self.assertEqual(equalities(pair_facts(plan, (R,), 7, (R,))),
                         ["b.b2 = b.b3", "b.b3 = b.b1", "b'.b2 = b'.b3", "b'.b3 = b'.b1", "b.b2 = b'.b2"])
        self.assertEqual(equalities(pair_facts(plan, (R,), 7, (L,))),
                         ["b.b2 = b.b3", "b.b3 = b.b1", "a'.a1 = a'.a2", "a'.a3 = a'.a1", "b.b2 = a'.a2"])

    def test_right_sides_of_antis_do_not_count(self):
        inner = base("a").anti_with(base("b").equal("b1", "b2"), [("a1", "b1")])
        plan = Plan(inner.equal("a1", "a2").keep("a2").distinct())
        self.assertEqual(equalities(pair_facts(plan, (), 7, ())), ["a.a1 = a.a2", "a'.a1 = a'.a2", "a.a2 = a'.a2"])

    def test_without_key_columns(self):
        plan = Plan(base("a").group_by(n="count"))
        self.assertEqual(pair_facts(plan, (), 2, ()), [])
        pair_facts(plan, (), 2, ()).append(1)
        self.assertEqual(pair_facts(plan, (), 2, ()), [])
