"""States and failures: points 23 and 24."""

import unittest

from splitplans.places import Failure, State, failures, states
from splitplans.plans import Plan, scan
from splitplans.tables import Table

from helpers import read

L, R = "left", "right"
COPIED, ZERO, ANYHOW = ("copied",), ("zero",), ("anyhow",)


def base(name, lies=ANYHOW, **more):
    """A scan of a table with the columns name1, name2, name3."""
    return scan(Table(name, [f"{name}{at}" for at in (1, 2, 3)], lies=lies, **more))


def dealt(name, *columns, rule="r"):
    """The same, dealt by some columns."""
    return base(name, ("dealt", rule, tuple(f"{name}{at}" for at in columns or (1,))))


def placed(root, choice=()):
    """The texts of the states of the steps that are met in a choice, in number order."""
    found = states(Plan(root))
    return [str(found[at]) for at in sorted(found) if at[1] == choice]


def last(root, choice=()):
    return placed(root, choice)[-1]


def told(failure):
    """All that a failure tells, behind its kind and rank only what is not as in most of them."""
    left = None if failure.left is None else failure.left.text
    right = None if failure.right is None else failure.right.text
    place = "answer" if failure.at_end else failure.number
    return (failure.kind, failure.rank, place, failure.choice, failure.anti, failure.other, left, right)


def fails(root, order=()):
    return [told(failure) for failure in failures(Plan(root, order))]


def lost(number, left, right, choice=(), anti=0):
    return ("lost", 2 if anti else 1, number, choice, anti, None, left, right)


def copies(number, choice=()):
    return ("copies", 1, number, choice, 0, None, None, None)


def junk(number, anti, left, right, choice=()):
    return ("junk", 2, number, choice, anti, None, left, right)


def apart(number, left, right, choice=(), other=()):
    return ("apart", 3, number, choice, 0, other, left, right)


class States(unittest.TestCase):
    def test_texts(self):
        self.assertEqual(str(State()), "everywhere")
        self.assertEqual(str(State(read("r[t.k]"))), "at r[t.k]")
        wants = [(5, read("r[s.j]")), (7, read("@u"))]
        self.assertEqual(str(State(None, wants)), "everywhere, wants 5 r[s.j], 7 @u")
        self.assertEqual(str(State(wants=tuple(wants[1:]))), "everywhere, wants 7 @u")

    def test_attributes(self):
        state = State(read("0"))
        self.assertEqual((state.term, state.wants), (read("0"), ()))
        wants = [(5, read("r[s.j]"))]
        state = State(None, wants)
        wants.append((6, read("0")))
        self.assertEqual((state.term, state.wants, str(state)), (None, ((5, read("r[s.j]")),), "everywhere, wants 5 r[s.j]"))
        self.assertIsInstance(state.wants, tuple)

    def test_equal(self):
        self.assertEqual(State(), State(None, []))
        self.assertEqual(State(read("@t")), State(read("@t")))
        self.assertEqual(State(None, [(3, read("0"))]), State(None, ((3, read("0")),)))
        for other in (State(), State(read("@s")), State(read("@t'")), State(None, [(3, read("@t"))]), "at @t", None,
                      read("@t"), 0):
            self.assertFalse(State(read("@t")) == other)
            self.assertTrue(State(read("@t")) != other)

    def test_scans(self):
        self.assertEqual(placed(base("a")), ["at @a"])
        self.assertEqual(placed(base("a", ZERO)), ["at 0"])
        self.assertEqual(placed(base("a", COPIED)), ["everywhere"])
        self.assertEqual(placed(dealt("a", 2, 1)), ["at r[a.a2, a.a1]"])

    def test_steps_with_the_state_of_their_input(self):
        step = dealt("a")
        for over in (step.where("p", "a1"), step.compute("n", "f", "a1"), step.equal("a1", "a2"), step.keep("a2"),
                     step.distinct(), step.group_by("a2", n="count"), step.sort_by("a2")):
            self.assertEqual(last(over), "at r[a.a1]")
        self.assertEqual(last(base("a", COPIED).distinct()), "everywhere")

    def test_exchanges(self):
        for step in (dealt("a"), base("a", ZERO), base("a", COPIED)):
            self.assertEqual(last(step.compute("n", "f", "a3").split_by("q", "a2", "n")), "at q[a.a2, f(a.a3)]")
            self.assertEqual(last(step.gather()), "at 0")
            self.assertEqual(last(step.sort_by("a1").merge_by("a1")), "at 0")
            self.assertEqual(last(step.broadcast()), "everywhere")

    def test_union(self):
        union = dealt("a") + base("b", COPIED)
        self.assertEqual(placed(union, (L,)), ["at r[a.a1]", "at r[a.a1]"])
        self.assertEqual(placed(union, (R,)), ["everywhere", "everywhere"])
        split = union.split_by("r", "a3")
        self.assertEqual([last(split, (L,)), last(split, (R,))], ["at r[a.a3]", "at r[b.b3]"])
        self.assertEqual(sorted(states(Plan(union))), [(1, (L,)), (2, (R,)), (3, (L,)), (3, (R,))])

    def test_join_and_semi(self):
        on = [("a1", "b1")]
        for left, right, state in ((dealt("a"), dealt("b"), "at r[a.a1]"), (dealt("a"), base("b", COPIED), "at r[a.a1]"),
                                   (base("a", COPIED), dealt("b"), "at r[b.b1]"),
                                   (base("a", COPIED), base("b", COPIED), "everywhere"),
                                   (base("a", ZERO), base("b", ZERO), "at 0")):
            for over in (left.join_with(right, on), left.semi_with(right, on)):
                self.assertEqual(last(over), state)

    def test_anti(self):
        on = [("a1", "b1")]
        self.assertEqual(last(dealt("a").anti_with(dealt("b"), on)), "at r[a.a1]")
        self.assertEqual(last(dealt("a").anti_with(base("b", COPIED), on)), "at r[a.a1]")
        self.assertEqual(last(base("a", COPIED).anti_with(base("b", COPIED), on)), "everywhere")
        self.assertEqual(last(base("a", COPIED).anti_with(base("b"), on)), "everywhere, wants 3 @b")
        self.assertEqual(last(base("a", COPIED).anti_with(dealt("b", 2), on)), "everywhere, wants 3 r[b.b2]")

    def test_wants_that_are_kept(self):
        step = base("a", COPIED).anti_with(dealt("b"), [("a1", "b1")])
        two = step.anti_with(base("c"), [("a2", "c1")])
        self.assertEqual(last(two), "everywhere, wants 3 r[b.b1], 5 @c")
        joined = step.join_with(base("d", COPIED).anti_with(base("c"), [("d1", "c1")]), [("a1", "d1")])
        self.assertEqual(last(joined), "everywhere, wants 3 r[b.b1], 6 @c")
        turned = base("d", COPIED).join_with(two, [("d1", "a1")])
        self.assertEqual(last(turned.distinct()), "everywhere, wants 4 r[b.b1], 6 @c")
        self.assertEqual(last(step.where("p", "a1").sort_by("a1").keep("a1")), "everywhere, wants 3 r[b.b1]")

    def test_own(self):
        self.assertEqual(last(base("a", COPIED).own_by("r", "a1")), "at r[a.a1]")
        self.assertEqual(last(dealt("a").own_by("r", "a1")), "at r[a.a1]")
        self.assertEqual(fails(base("a", COPIED).own_by("r", "a1").gather()), [])

    def test_what_was_returned_may_be_changed(self):
        plan = Plan(base("a").gather())
        states(plan).clear()
        failures(plan).append(1)
        self.assertEqual((len(states(plan)), failures(plan)), (2, []))


class Examples(unittest.TestCase):
    """The four examples below point 24."""

    def setUp(self):
        self.a = scan(Table("a", ["k", "c"], lies=("dealt", "r", ("k",))))
        self.b = scan(Table("b", ["j", "d"], lies=("dealt", "r", ("d",))))
        self.s = scan(Table("s", ["x", "y"], lies=COPIED))

    def test_join(self):
        joined = self.a.join_with(self.b, [("k", "j")])
        self.assertEqual(fails(joined.gather()), [lost(3, "r[a.k]", "r[b.d]")])
        for over in (joined.equal("k", "d").gather(), joined.gather().equal("k", "d"),
                     joined.group_by("k", "d", n="count").gather().equal("d", "k")):
            self.assertEqual(fails(over), [])

    def test_anti(self):
        step = self.s.anti_with(self.a, [("x", "k")])
        self.assertEqual(last(step), "everywhere, wants 3 r[a.k]")
        self.assertEqual(fails(step.gather()), [copies(4), junk(4, 3, None, "r[a.k]")])
        self.assertEqual(last(step.own_by("r", "x")), "at r[s.x]")
        self.assertEqual(fails(step.own_by("r", "x").gather()), [])

    def test_group(self):
        step = self.a.group_by("c", n="count").gather()
        self.assertEqual(fails(step), [apart(2, "r[a.k]", "r[a.k]")])
        step = self.a.compute("b", "f", "k").split_by("r", "b").group_by("k", n="count").gather()
        self.assertEqual(fails(step), [])

    def test_copied(self):
        step = self.s.group_by("x", n="count")
        self.assertEqual(fails(step.gather()), [copies(3)])
        self.assertEqual(fails(step), [])


class Lost(unittest.TestCase):
    on = [("a1", "b1")]

    def test_join_and_semi(self):
        left, right = dealt("a"), dealt("b", 2)
        self.assertEqual(fails(left.join_with(right, self.on).gather()), [lost(3, "r[a.a1]", "r[b.b2]")])
        self.assertEqual(fails(left.semi_with(right, self.on).gather()),
                         [lost(3, "r[a.a1]", "r[b.b2]"), apart(3, "r[b.b2]", "r[b.b2]")])
        for over in (left.join_with(right, self.on), left.semi_with(right, self.on)):
            self.assertEqual(placed(over), ["at r[a.a1]", "at r[b.b2]", "at r[a.a1]"])
        self.assertEqual(fails(base("a").join_with(base("b"), self.on).gather()), [lost(3, "@a", "@b")])
        self.assertEqual(fails(base("a", ZERO).join_with(dealt("b"), self.on)), [lost(3, "0", "r[b.b1]")])

    def test_own(self):
        self.assertEqual(fails(dealt("a").own_by("r", "a2").gather()), [lost(2, "r[a.a1]", "r[a.a2]")])
        self.assertEqual(last(dealt("a").own_by("q", "a1")), "at r[a.a1]")
        self.assertEqual(fails(dealt("a").own_by("r", "a2").equal("a1", "a2").gather()), [])

    def test_answer(self):
        self.assertEqual(fails(base("a")), [lost("answer", "@a", "0")])
        self.assertEqual(fails(dealt("a").distinct()), [lost("answer", "r[a.a1]", "0")])
        self.assertEqual(fails(base("a", ZERO)), [])
        self.assertEqual(fails(base("a", COPIED)), [])
        found = failures(Plan(base("a").where("p", "a1")))
        self.assertEqual([(failure.number, failure.at_end) for failure in found], [(2, True)])

    def test_at_the_level_of_an_anti(self):
        right = dealt("b").join_with(dealt("c", 2), [("b1", "c1")])
        step = base("a", COPIED).anti_with(right, [("a1", "b1")])
        self.assertEqual(fails(step.own_by("r", "a1").gather()), [lost(4, "r[b.b1]", "r[c.c2]", anti=5)])
        eased = base("a", COPIED).anti_with(right, [("a1", "b1"), ("a1", "c2")])
        self.assertEqual(fails(eased.own_by("r", "a1").gather()), [])
        owned = base("a", COPIED).anti_with(dealt("b").own_by("q", "b1"), [("a1", "b1")]).own_by("r", "a1").gather()
        self.assertEqual(fails(owned), [lost(3, "r[b.b1]", "q[b.b1]", anti=4)])

    def test_facts_of_the_outside_count_inside(self):
        right = dealt("b").join_with(dealt("c", 2), [("b1", "c1")])
        step = base("a", COPIED).anti_with(right, [("a1", "b1"), ("a2", "c2")])
        self.assertEqual(fails(step.own_by("r", "a1").gather()), [lost(4, "r[b.b1]", "r[c.c2]", anti=5)])
        self.assertEqual(fails(step.own_by("r", "a1").gather().equal("a1", "a2")), [])

    def test_facts_of_the_inside_do_not_count_outside(self):
        step = dealt("a").anti_with(base("b", COPIED).equal("b1", "b2"), [("a1", "b1"), ("a2", "b2")]).own_by("r", "a2")
        self.assertEqual(fails(step.gather()), [lost(5, "r[a.a1]", "r[a.a2]")])

    def test_keys_do_not_count(self):
        step = dealt("a").join_with(base("b", ("dealt", "r", ("b2",)), key=["b1"]), [("a1", "b1")])
        self.assertEqual(fails(step.gather()), [lost(3, "r[a.a1]", "r[b.b2]")])


class Copies(unittest.TestCase):
    def test_strict_exchanges(self):
        step = base("a", COPIED)
        for over in (step.gather(), step.split_by("r", "a1").gather(), step.broadcast(),
                     step.sort_by("a1").merge_by("a1")):
            number = 3 if over.kind == "merge" else 2
            self.assertEqual(fails(over), [copies(number)])
        self.assertEqual(fails(dealt("a").broadcast().gather()), [copies(3)])

    def test_loose_exchanges(self):
        step = base("b", COPIED)
        for over in (step.gather(), step.split_by("r", "b1").gather(), step.broadcast()):
            self.assertEqual(fails(base("a", ZERO).semi_with(over, [("a1", "b1")])), [])
            self.assertEqual(fails(over.distinct().gather().distinct()), [])

    def test_in_parts(self):
        step = base("a", COPIED).group_by("a1", n="count").gather().group_by(s=("sum", "n"))
        self.assertEqual(fails(step), [copies(3)])

    def test_state_behind(self):
        self.assertEqual(placed(base("a", COPIED).gather()), ["everywhere", "at 0"])
        self.assertEqual(placed(base("a", COPIED).split_by("r", "a1").own_by("r", "a1"))[1:], ["at r[a.a1]"] * 2)


class Junk(unittest.TestCase):
    def setUp(self):
        self.step = base("a", COPIED).anti_with(dealt("b"), [("a1", "b1")])

    def test_at_an_anti(self):
        self.assertEqual(fails(dealt("a", 2).anti_with(dealt("b"), [("a1", "b1")]).gather()),
                         [junk(3, 3, "r[a.a2]", "r[b.b1]")])
        self.assertEqual(fails(dealt("a").anti_with(base("b"), [("a1", "b1")]).gather()), [junk(3, 3, "r[a.a1]", "@b")])
        self.assertEqual(fails(base("a", ZERO).anti_with(dealt("b"), [("a1", "b1")])), [junk(3, 3, "0", "r[b.b1]")])
        self.assertEqual(last(dealt("a", 2).anti_with(dealt("b"), [("a1", "b1")])), "at r[a.a2]")

    def test_at_an_own(self):
        self.assertEqual(fails(self.step.own_by("r", "a2").gather()), [junk(4, 3, "r[a.a2]", "r[b.b1]")])
        self.assertEqual(last(self.step.own_by("r", "a2")), "at r[a.a2]")

    def test_at_a_join(self):
        for left, right, on in ((self.step, dealt("c", 2), [("a1", "c1")]), (dealt("c", 2), self.step, [("c1", "a1")])):
            root = left.join_with(right, on)
            number = 3 if left == self.step else 4
            self.assertEqual(fails(root.gather()), [junk(5, number, "r[c.c2]", "r[b.b1]")])
            self.assertEqual(last(root), "at r[c.c2]")
        self.assertEqual(fails(self.step.join_with(dealt("c"), [("a1", "c1")]).gather()), [])

    def test_at_the_answer(self):
        self.assertEqual(fails(self.step), [junk("answer", 3, "0", "r[b.b1]")])
        self.assertEqual(fails(base("a", COPIED).anti_with(base("b", ZERO), [("a1", "b1")])), [])
        two = self.step.anti_with(base("c"), [("a1", "c1")])
        self.assertEqual(fails(two), [junk("answer", 3, "0", "r[b.b1]"), junk("answer", 5, "0", "@c")])

    def test_at_an_exchange(self):
        two = self.step.anti_with(base("c"), [("a1", "c1")])
        self.assertEqual(fails(two.gather()), [copies(6), junk(6, 3, None, "r[b.b1]"), junk(6, 5, None, "@c")])
        self.assertEqual(last(two.split_by("r", "a3")), "at r[a.a3]")
        self.assertEqual(last(two.broadcast()), "everywhere")

    def test_at_a_loose_exchange(self):
        for over in (self.step.gather(), self.step.broadcast(), self.step.split_by("q", "a1").gather()):
            root = base("c", ZERO).semi_with(over, [("c1", "a1")])
            self.assertEqual(fails(root), [junk(5, 4, None, "r[b.b1]")])

    def test_some_wants_that_hold(self):
        two = self.step.anti_with(dealt("c"), [("a2", "c1")])
        self.assertEqual(fails(two.own_by("r", "a1").gather()), [junk(6, 5, "r[a.a1]", "r[c.c1]")])
        self.assertEqual(fails(two.own_by("r", "a2").gather()), [junk(6, 3, "r[a.a2]", "r[b.b1]")])
        self.assertEqual(fails(two.own_by("r", "a3").gather()),
                         [junk(6, 3, "r[a.a3]", "r[b.b1]"), junk(6, 5, "r[a.a3]", "r[c.c1]")])
        self.assertEqual(fails(two.own_by("r", "a1").gather().equal("a1", "a2")), [])


class Apart(unittest.TestCase):
    def test_distinct_and_group(self):
        step = dealt("a").keep("a2", "a3")
        self.assertEqual(fails(step.distinct().gather()), [apart(3, "r[a.a1]", "r[a.a1]")])
        self.assertEqual(fails(step.group_by("a2", n="count").gather()), [apart(3, "r[a.a1]", "r[a.a1]")])
        self.assertEqual(fails(dealt("a").distinct().gather()), [])
        self.assertEqual(fails(dealt("a").group_by("a1", n="count").gather()), [])
        self.assertEqual(fails(base("a").group_by("a1", "a2", "a3").gather()), [apart(2, "@a", "@a")])
        self.assertEqual(fails(base("a").gather().group_by("a1", n="count")), [])
        self.assertEqual(fails(base("a", COPIED).group_by("a1", n="count")), [])

    def test_without_key_columns(self):
        self.assertEqual(fails(dealt("a").group_by(n="count").gather()), [apart(2, "r[a.a1]", "r[a.a1]")])
        self.assertEqual(fails(base("a", ZERO).group_by(n="count")), [])

    def test_keys_count(self):
        table = Table("t", ["k", "c"], key=["k"])
        self.assertEqual(fails(scan(table).group_by("k", n="count").gather()), [])
        self.assertEqual(fails(scan(table).group_by("c", n="count").gather()), [apart(2, "@t", "@t")])
        self.assertEqual(fails(scan(table.with_key("k", "c")).group_by("k", n="count").gather()), [apart(2, "@t", "@t")])

    def test_semi(self):
        step = base("a", COPIED).semi_with(dealt("b"), [("a1", "b2")])
        self.assertEqual(fails(step.gather()), [apart(3, "r[b.b1]", "r[b.b1]")])
        self.assertEqual(fails(base("a", COPIED).semi_with(dealt("b"), [("a1", "b1")]).gather()), [])
        self.assertEqual(fails(base("a", COPIED).semi_with(base("b", ZERO), [("a1", "b2")])), [])

    def test_loose_ones_and_those_in_parts(self):
        step = dealt("a").group_by("a2", n="count").gather().group_by("a2", s=("sum", "n"))
        self.assertEqual(fails(step), [])
        self.assertEqual(fails(dealt("a").keep("a2").distinct().gather().distinct()), [])
        right = base("b", COPIED).semi_with(dealt("c"), [("b1", "c2")])
        self.assertEqual(fails(base("a", ZERO).semi_with(right.own_by("r", "b1").gather(), [("a1", "b1")])),
                         [lost(5, "r[c.c1]", "r[b.b1]")])

    def test_facts_above(self):
        step = dealt("a").group_by("a2", "a3", n="count").gather()
        self.assertEqual(fails(step), [apart(2, "r[a.a1]", "r[a.a1]")])
        below = dealt("a").equal("a1", "a2").group_by("a2", n="count").gather()
        self.assertEqual(fails(below), [])

    def test_two_choices(self):
        union = dealt("a") + dealt("b")
        self.assertEqual(fails(union.distinct().gather()), [])
        union = dealt("a") + dealt("b", 2)
        self.assertEqual(fails(union.distinct().gather()),
                         [apart(4, "r[a.a1]", "r[b.b2]", (L,), (R,)), apart(4, "r[b.b2]", "r[a.a1]", (R,), (L,))])
        union = base("a") + dealt("b")
        self.assertEqual(fails(union.distinct().gather()),
                         [apart(4, "@a", "@a", (L,), (L,)), apart(4, "@a", "r[b.b1]", (L,), (R,)),
                          apart(4, "r[b.b1]", "@a", (R,), (L,))])

    def test_where_one_is_everywhere_nothing_is_asked(self):
        union = dealt("a") + base("b", COPIED)
        found = fails(union.distinct())
        self.assertEqual(found, [lost("answer", "r[a.a1]", "0", (L,))])
        union = base("a", ZERO) + base("b", COPIED)
        self.assertEqual(fails(union.distinct()), [])

    def test_choices_that_do_not_fit(self):
        union = dealt("a").distinct() + dealt("b", 2).distinct()
        self.assertEqual(fails(union.gather()), [])


class Order(unittest.TestCase):
    def test_by_rank(self):
        joined = dealt("a").join_with(dealt("b", 2), [("a1", "b1")])
        step = joined.anti_with(base("c"), [("a1", "c1")]).group_by("a2", n="count")
        self.assertEqual(fails(step), [
            lost(3, "r[a.a1]", "r[b.b2]"), lost("answer", "r[a.a1]", "0"),
            junk(5, 5, "r[a.a1]", "@c"), apart(6, "r[a.a1]", "r[a.a1]")])

    def test_the_answer_behind_the_root(self):
        union = dealt("a").own_by("r", "a2") + base("b").own_by("r", "b2")
        step = union.own_by("r", "a3")
        self.assertEqual(fails(step), [
            lost(2, "r[a.a1]", "r[a.a2]", (L,)), lost(4, "@b", "r[b.b2]", (R,)),
            lost(6, "r[a.a1]", "r[a.a3]", (L,)), lost(6, "@b", "r[b.b3]", (R,)),
            lost("answer", "r[a.a1]", "0", (L,)), lost("answer", "@b", "0", (R,))])

    def test_by_step_then_by_choice(self):
        union = base("a", COPIED) + base("b", COPIED)
        step = union.split_by("r", "a1").split_by("r", "a2").broadcast().gather()
        self.assertEqual(fails(step), [copies(4, (L,)), copies(4, (R,)), copies(7, (L,)), copies(7, (R,))])

    def test_one_fault_in_several_choices(self):
        union = base("a", ZERO) + base("b", ZERO)
        right = dealt("c").join_with(dealt("d", 2), [("c1", "d1")])
        found = fails(union.anti_with(right.broadcast(), [("a1", "c1")]))
        self.assertEqual(found, [lost(6, "r[c.c1]", "r[d.d2]", (L,), 8), lost(6, "r[c.c1]", "r[d.d2]", (R,), 8)])
        found = fails(union.anti_with(dealt("c"), [("a1", "c1")]))
        self.assertEqual(found, [junk(5, 5, "0", "r[c.c1]", (L,)), junk(5, 5, "0", "r[c.c1]", (R,))])

    def test_rank_two_of_several_kinds(self):
        right = dealt("b").join_with(dealt("c", 2), [("b1", "c1")])
        step = dealt("a", 3).anti_with(right, [("a1", "b1")])
        self.assertEqual(fails(step.gather()),
                         [lost(4, "r[b.b1]", "r[c.c2]", anti=5), junk(5, 5, "r[a.a3]", "r[b.b1]")])

    def test_apart_by_the_fitting_choice(self):
        union = dealt("a", 2) + (dealt("b", 2) + dealt("c", 2))
        found = fails(union.group_by("a1", n="count").gather())
        self.assertEqual([(one[3], one[5]) for one in found],
                         [(first, second) for first in ((L, L), (L, R), (R, L), (R, R))
                          for second in ((L, L), (L, R), (R, L), (R, R))])
        # The first word is of the inner union, the second one of the outer.
        self.assertEqual(found[6], apart(6, "r[b.b2]", "r[a.a2]", (L, R), (R, L)))

    def test_attributes(self):
        found = failures(Plan(dealt("a").group_by("a2", n="count").split_by("r", "a2")))
        self.assertEqual([failure.kind for failure in found], ["lost", "apart"])
        self.assertIsInstance(found[0], Failure)
        self.assertEqual([failure.at_end for failure in found], [True, False])
        self.assertEqual([failure.other for failure in found], [None, ()])
        self.assertEqual((found[0].left, found[0].right), (read("r[a.a2]"), read("0")))
        self.assertEqual((found[1].left, found[1].right), (read("r[a.a1]"), read("r[a.a1]")))
        self.assertEqual([failure.choice for failure in found], [(), ()])
