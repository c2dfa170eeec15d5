"""Orders: points 26 and 27."""

import itertools
import unittest

from splitplans.machine import Machine
from splitplans.orders import broken_claim, claim_facts, claim_holds, claims
from splitplans.plans import Plan, scan
from splitplans.rowpairs import identity_pairs
from splitplans.stories import Story
from splitplans.tables import Table
from splitplans.worlds import World

from helpers import pairs

A = Table("a", ["k", "x"], lies=("zero",))
B = Table("b", ["j", "y"], lies=("zero",))
C = Table("c", ["h", "z"], lies=("zero",))


def written(facts):
    return [f"{left} = {right}" for left, right in facts]


def holds(root, *order):
    """Whether each claim of a plan of one choice holds, in order."""
    plan = Plan(root, order)
    return [claim_holds(plan, *claim) for claim in claims(plan)]


def all_answers(plan, world):
    """The answers of all runs of a plan in a world."""
    found = []

    def go_on(moves):
        machine = Machine(plan, world)
        for move in moves:
            machine.move(*move)
        open_moves = list(machine.open_moves())
        if not open_moves:
            found.append(machine.answer())
        for move in open_moves:
            go_on(moves + [move])
    go_on([])
    return [list(answer) for answer in sorted({tuple(answer) for answer in found})]


class WhatARunDoes(unittest.TestCase):
    """Which of two rows comes first, seen in all runs of small worlds."""

    def answers(self, root, rows, places=(), workers=2, **more):
        tables = Plan(root).tables
        anyhow = dict(places)
        return all_answers(Plan(root), World(tables, rows, workers=workers, anyhow=anyhow, **more))

    def test_steps_of_one_input(self):
        a = scan(A)
        rows = {"a": [(2, 1), (1, 1), (3, 0)]}
        self.assertEqual(self.answers(a, rows), [[(2, 1), (1, 1), (3, 0)]])
        self.assertEqual(self.answers(a.where("p", "k"), rows, tests={"p": [(1,), (2,)]}), [[(2, 1), (1, 1)]])
        self.assertEqual(self.answers(a.compute("n", "f", "k"), rows), [[(2, 1, 0), (1, 1, 0), (3, 0, 0)]])
        self.assertEqual(self.answers(a.keep("x", "k"), rows), [[(1, 2), (1, 1), (0, 3)]])
        self.assertEqual(self.answers(a.own_by("r", "k"), rows), [[(2, 1), (1, 1), (3, 0)]])
        self.assertEqual(self.answers(a.sort_by("x"), rows), [[(3, 0), (2, 1), (1, 1)]])
        self.assertEqual(self.answers(a.sort_by("x", "k"), rows), [[(3, 0), (1, 1), (2, 1)]])
        self.assertEqual(self.answers(a.group_by("x"), rows), [[(0,), (1,)]])
        self.assertEqual(self.answers(a.distinct(), rows), [[(1, 1), (2, 1), (3, 0)]])

    def test_steps_of_two_inputs(self):
        a, b = scan(A), scan(B)
        rows = {"a": [(2, 1), (1, 1)], "b": [(1, 9), (1, 8), (2, 7)]}
        self.assertEqual(self.answers(a + b, rows), [[(2, 1), (1, 1), (1, 9), (1, 8), (2, 7)]])
        joined = [(2, 1, 2, 7), (1, 1, 1, 9), (1, 1, 1, 8)]
        self.assertEqual(self.answers(a.join_with(b, [("k", "j")]), rows), [joined])
        self.assertEqual(self.answers(a.semi_with(b, [("k", "j")]), rows), [[(2, 1), (1, 1)]])
        self.assertEqual(self.answers(a.anti_with(b, [("k", "y")]), rows), [[(2, 1), (1, 1)]])

    def test_exchanges(self):
        free = scan(A.with_lie(("anyhow",)))
        rows = {"a": [(2, 1), (1, 1)]}
        one = {"a": [1, 1]}
        two = {"a": [0, 1]}
        both = [[(1, 1), (2, 1)], [(2, 1), (1, 1)]]
        for step in (free.gather(), free.split_by("r", "x"), free.broadcast()):
            self.assertEqual(self.answers(step, rows, one), [[(2, 1), (1, 1)]])
            self.assertEqual(self.answers(step, rows, two), both)
        merged = free.sort_by("x", "k").merge_by("x")
        self.assertEqual(self.answers(merged, rows, one), [[(1, 1), (2, 1)]])
        # Alike in the merge's columns: the lower sender first, whatever else they hold.
        self.assertEqual(self.answers(merged, rows, two), [[(2, 1), (1, 1)]])
        self.assertEqual(self.answers(merged, rows, {"a": [1, 0]}), [[(1, 1), (2, 1)]])
        by_k = free.sort_by("k").merge_by("k")
        for places in (two, {"a": [1, 0]}, one):
            self.assertEqual(self.answers(by_k, rows, places), [[(1, 1), (2, 1)]])

    def test_behind_an_exchange(self):
        """Steps above an exchange keep what it left open."""
        free = scan(A.with_lie(("anyhow",))).gather()
        rows = {"a": [(2, 1), (1, 1)]}
        two = {"a": [0, 1]}
        self.assertEqual(len(self.answers(free.keep("k"), rows, two)), 2)
        self.assertEqual(len(self.answers(free.sort_by("x"), rows, two)), 2)
        self.assertEqual(len(self.answers(free.sort_by("k"), rows, two)), 1)


class Claims(unittest.TestCase):
    def test_which_there_are(self):
        a = scan(A)
        self.assertEqual(claims(Plan(a)), [])
        self.assertEqual(broken_claim(Plan(a)), None)
        self.assertEqual(claims(Plan(a, ["k"])), [((), (), 0)])
        self.assertEqual(claims(Plan(a.sort_by("k", "x"), ["k", "x"])), [((), (), 0), ((), (), 1)])
        self.assertEqual(len(claims(Plan(a.compute("n", "f", "k"), ["k", "x", "n"]))), 3)

    def test_with_unions(self):
        one = Plan(scan(A) + scan(B), ["k", "x"])
        left, right = ("left",), ("right",)
        self.assertEqual(claims(one), [(left, left, 0), (left, left, 1), (left, right, 0), (left, right, 1),
                                       (right, right, 0), (right, right, 1)])
        two = Plan(scan(A) + scan(B) + scan(C), ["k"])
        words = sorted(itertools.product(("left", "right"), repeat=2))
        wanted = [(first, second, 0) for first in words for second in words if second >= first]
        self.assertEqual(claims(two), wanted)
        self.assertEqual(len(wanted), 10)

    def test_facts_in_order(self):
        joined = scan(A).join_with(scan(B).equal("j", "y"), [("k", "j")])
        plan = Plan(joined, ["x", "y", "k"])
        own = ["b.j = b.y", "a.k = b.j"]
        marked = ["b'.j = b'.y", "a'.k = b'.j"]
        self.assertEqual(written(claim_facts(plan, (), (), 0)), own + marked)
        self.assertEqual(written(claim_facts(plan, (), (), 2)), own + marked + ["a.x = a'.x", "b.y = b'.y"])

    def test_facts_of_two_choices(self):
        plan = Plan(scan(A).equal("k", "x") + scan(B).equal("y", "j").keep("y", "j"), ["k", "x"])
        self.assertEqual(claim_facts(plan, ("left",), ("right",), 1),
                         pairs("a.k = a.x", "b'.y = b'.j", "a.k = b'.y"))
        self.assertEqual(claim_facts(plan, ("right",), ("right",), 1),
                         pairs("b.y = b.j", "b'.y = b'.j", "b.y = b'.y"))

    def test_an_antis_right_side_counts_for_nothing(self):
        plan = Plan(scan(A).anti_with(scan(B).equal("j", "y"), [("k", "j")]), ["x"])
        self.assertEqual(claim_facts(plan, (), (), 0), [])
        semi = Plan(scan(A).semi_with(scan(B), [("k", "j")]), ["x"])
        self.assertEqual(written(claim_facts(semi, (), (), 0)), ["a.k = b.j", "a'.k = b'.j"])

    def test_the_first_one_that_is_broken(self):
        a = scan(A)
        self.assertEqual(broken_claim(Plan(a.sort_by("k"), ["k", "x"])), ((), (), 1))
        self.assertEqual(broken_claim(Plan(a.sort_by("k", "x"), ["k", "x"])), None)
        self.assertEqual(broken_claim(Plan(a.sort_by("x"), ["k", "x"])), ((), (), 0))
        both = Plan(scan(A).sort_by("k") + scan(B).sort_by("j"), ["k"])
        self.assertEqual(broken_claim(both), (("left",), ("right",), 0))
        right = Plan(scan(A).sort_by("k") + scan(B), ["k"])
        self.assertEqual([claim_holds(right, *claim) for claim in claims(right)], [True, False, False])

    def test_what_is_returned_is_the_callers(self):
        plan = Plan(scan(A).sort_by("k"), ["k"])
        claims(plan).clear()
        claim_facts(plan, (), (), 0).append(1)
        self.assertEqual(claims(plan), [((), (), 0)])
        self.assertEqual(claim_facts(plan, (), (), 0), [])


class Holds(unittest.TestCase):
    """Each kind of step."""

    def test_scan(self):
        self.assertEqual(holds(scan(A), "k"), [False])
        self.assertEqual(holds(scan(A.with_key("k")), "k"), [False])

    def test_a_key_makes_one_row(self):
        table = A.with_key("k")
        self.assertEqual(holds(scan(table).sort_by("k"), "k", "x"), [True, True])
        self.assertEqual(holds(scan(A.with_key("x")).sort_by("k"), "k", "x"), [True, False])
        copy = scan(table).compute("n", "f", "k").sort_by("k")
        self.assertEqual(holds(copy, "k", "n", "x"), [True, True, True])

    def test_steps_that_keep_the_order(self):
        base = scan(A).sort_by("k")
        b = scan(B)
        for root in (base.where("p", "x"), base.compute("n", "f", "x"), base.equal("k", "x"), base.keep("k"),
                     base.own_by("r", "x"), base.semi_with(b, [("x", "j")]), base.anti_with(b, [("x", "j")])):
            self.assertEqual(holds(root, "k"), [True], root.kind)

    def test_sorts(self):
        a = scan(A)
        self.assertEqual(holds(a.sort_by("k"), "k"), [True])
        self.assertEqual(holds(a.sort_by("x"), "k"), [False])
        # Equal by the facts, so it tells as well.
        self.assertEqual(holds(a.sort_by("x").equal("k", "x"), "k"), [True])
        self.assertEqual(holds(a.equal("k", "x").sort_by("x"), "k"), [True])
        # The first sort is not undone where the second one tells nothing.
        c = a.compute("n", "f", "k")
        self.assertEqual(holds(c.sort_by("x").sort_by("k"), "k", "x"), [True, True])
        self.assertEqual(holds(c.sort_by("x").sort_by("k"), "k", "n", "x"), [True, True, True])
        self.assertEqual(holds(c.sort_by("x").sort_by("k"), "x"), [False])
        self.assertEqual(holds(c.sort_by("k", "x"), "k", "x"), [True, True])
        self.assertEqual(holds(c.sort_by("k", "x"), "x", "k"), [False, True])
        # n differs only where k does.
        self.assertEqual(holds(c.sort_by("n", "x"), "k", "x"), [False, True])

    def test_groups_and_distincts(self):
        a = scan(A)
        self.assertEqual(holds(a.group_by("k", "x"), "k", "x"), [True, True])
        self.assertEqual(holds(a.group_by("x", "k"), "k"), [False])
        self.assertEqual(holds(a.group_by("x", "k", n="count"), "x"), [True])
        self.assertEqual(holds(a.distinct(), "k", "x"), [True, True])
        self.assertEqual(holds(a.distinct(), "x"), [False])
        self.assertEqual(holds(a.keep("x", "k").distinct(), "x"), [True])
        # Rows alike in all keys are one, whatever is sorted below.
        self.assertEqual(holds(a.sort_by("x").group_by("k"), "k"), [True])

    def test_joins(self):
        a, b = scan(A), scan(B)
        on = [("k", "j")]
        left = a.sort_by("k").join_with(b, on)
        self.assertEqual(holds(left, "k"), [True])
        self.assertEqual(holds(left, "j"), [True])
        # Left rows alike in k need not be one, so the right rows' order is lost.
        self.assertEqual(holds(a.sort_by("k").join_with(b.sort_by("y"), on), "k", "y"), [True, False])
        keyed = scan(A.with_key("k")).sort_by("k")
        self.assertEqual(holds(keyed.join_with(b.sort_by("y"), on), "k", "y"), [True, True])
        self.assertEqual(holds(keyed.join_with(b, on), "k", "y"), [True, False])
        grouped = a.group_by("k")
        self.assertEqual(holds(grouped.join_with(b.sort_by("y"), on), "k", "y"), [True, True])
        self.assertEqual(holds(a.join_with(b.sort_by("y"), on), "y"), [False])

    def test_unions(self):
        a, b, c = scan(A).sort_by("k"), scan(B).sort_by("j"), scan(C).sort_by("h")
        self.assertEqual(holds(a + b, "k"), [True, False, True])
        self.assertEqual(holds((a + b).sort_by("k"), "k"), [True, True, True])
        # Below a group or a distinct the rows may be one.
        self.assertEqual(holds((a + b).group_by("k"), "k"), [True, True, True])
        self.assertEqual(holds((a + b).distinct(), "k", "x"), [True] * 6)
        self.assertEqual(holds((a + b).group_by("k").join_with(c, [("k", "h")]), "k", "z"),
                         [True, False, True, False, True, False])
        sorted_c = scan(C).sort_by("z")
        self.assertEqual(holds((a + b).group_by("k").join_with(sorted_c, [("k", "h")]), "k", "z"), [True] * 6)

    def test_unions_below_a_join(self):
        """Rows of unlike inputs are never one, so a join of them has unlike left rows."""
        a, b, c = scan(A.with_key("k")), scan(B.with_key("j")), scan(C).sort_by("z")
        joined = (a + b).sort_by("k").join_with(c, [("k", "h")])
        self.assertEqual(holds(joined, "k", "z"), [True, True, True, False, True, True])
        other = scan(C.with_key("h")).sort_by("h").join_with(a + b, [("h", "k")])
        # h tells one row of c; then the rows of the union come left ones first.
        self.assertEqual(holds(other, "h", "x"), [True, True, True, False, True, True])
        # Columns that are equal whichever input is followed need no order.
        constant = (scan(A).equal("k", "x") + scan(B).equal("j", "y")).sort_by("k")
        self.assertEqual(holds(constant, "k", "x"), [True] * 6)

    def test_split_broadcast_and_gather(self):
        lies = (("zero", [True]), ("anyhow", [False]))
        for word, wanted in lies:
            base = scan(A.with_lie((word,))).sort_by("k")
            self.assertEqual(holds(base.gather(), "k"), wanted)
            self.assertEqual(holds(base.broadcast(), "k"), wanted)
            self.assertEqual(holds(base.split_by("r", "x").gather(), "k"), [False])
        dealt = scan(A.with_lie(("dealt", "r", ("k",)))).sort_by("k", "x")
        # Rows alike in k come from one sender; others may come from two.
        self.assertEqual(holds(dealt.gather(), "k", "x"), [False, True])
        self.assertEqual(holds(dealt.gather(), "x"), [False])

    def test_rows_that_lie_everywhere(self):
        base = scan(A.with_lie(("copied",))).sort_by("k")
        self.assertEqual(holds(base, "k"), [True])
        self.assertEqual(holds(base.gather(), "k"), [False])
        self.assertEqual(holds(base.merge_by("k"), "k"), [False])

    def test_one_row_at_one_sender_and_one_everywhere(self):
        for left, right in ((A, C.with_lie(("copied",))), (A.with_lie(("copied",)), C)):
            base = (scan(left) + scan(right)).sort_by("k")
            self.assertEqual(holds(base.gather(), "k")[1], False)
            self.assertEqual(holds(base.merge_by("k"), "k")[1], False)

    def test_a_column_that_tells_in_one_choice_alone(self):
        """The sorted column is the order's by the facts of one input, not by those of the other."""
        free = ("anyhow",)
        for equal_left, equal_right, wanted in ((True, False, [True, False, False]), (False, True, [False, False, True]),
                                                (True, True, [True] * 3)):
            a, b = scan(A.with_lie(free)), scan(B.with_lie(free))
            union = (a.equal("k", "x") if equal_left else a) + (b.equal("j", "y") if equal_right else b)
            self.assertEqual(holds(union.sort_by("x"), "k"), wanted)
            self.assertEqual(holds(union.sort_by("x").merge_by("x"), "k"), wanted)
            self.assertEqual(holds(union.group_by("x", "k"), "k"), wanted)

    def test_merges(self):
        free = scan(A.with_lie(("anyhow",)))
        self.assertEqual(holds(free.sort_by("k").merge_by("k"), "k"), [True])
        self.assertEqual(holds(free.sort_by("k", "x").merge_by("k"), "k", "x"), [True, False])
        self.assertEqual(holds(free.sort_by("k", "x").merge_by("k", "x"), "k", "x"), [True, True])
        self.assertEqual(holds(free.sort_by("k").merge_by("k"), "x"), [False])
        # Rows of one sender keep its order, even if the merge's columns do not tell.
        zero = scan(A).sort_by("k", "x").merge_by("k")
        self.assertEqual(holds(zero, "k", "x"), [True, True])
        dealt = scan(A.with_lie(("dealt", "r", ("k",)))).sort_by("k", "x").merge_by("k")
        self.assertEqual(holds(dealt, "k", "x"), [True, True])
        other = scan(A.with_lie(("dealt", "r", ("x",)))).sort_by("k", "x").merge_by("k")
        self.assertEqual(holds(other, "k", "x"), [True, False])

    def test_merges_of_columns_that_are_equal(self):
        free = scan(A.with_lie(("anyhow",)))
        by_x = free.sort_by("x").equal("k", "x").sort_by("k").merge_by("k")
        self.assertEqual(holds(by_x, "x"), [True])
        union = free.sort_by("k") + scan(B.with_lie(("anyhow",))).sort_by("j")
        self.assertEqual(holds(union.sort_by("k").merge_by("k"), "k"), [True] * 3)
        # n differs only where k does, and the merge by k leaves rows of two senders alike in it.
        computed = free.compute("n", "f", "k").sort_by("k", "x")
        self.assertEqual(holds(computed.merge_by("k"), "k", "n", "x"), [True, True, False])
        self.assertEqual(holds(computed.merge_by("k"), "n"), [False])

    def test_a_merge_behind_a_split(self):
        split = scan(A.with_lie(("anyhow",))).sort_by("k").split_by("r", "x")
        self.assertEqual(holds(split.sort_by("k").merge_by("k"), "k", "x"), [True, False])
        self.assertEqual(holds(split.gather(), "k"), [False])


class Identities(unittest.TestCase):
    def test_pairs(self):
        plan = Plan(scan(A).join_with(scan(B), [("k", "j")]).sort_by("x"))
        story = Story(plan, ())
        self.assertEqual(identity_pairs(plan, story, story, 4), pairs("a = a'", "b = b'"))
        grouped = Plan(scan(A).group_by("x"))
        story = Story(grouped, ())
        self.assertEqual(identity_pairs(grouped, story, story, 2), pairs("a.x = a'.x"))

    def test_unlike_inputs(self):
        plan = Plan(((scan(A) + scan(B)).join_with(scan(C), [("k", "h")])).where("p", "k").group_by("k"))
        left, right = Story(plan, ("left",)), Story(plan, ("right",))
        for number in (3, 5, 6):
            self.assertEqual(identity_pairs(plan, left, right, number), None)
        self.assertEqual(identity_pairs(plan, left, left, 5), pairs("a = a'", "c = c'"))
        self.assertEqual(identity_pairs(plan, left, right, 4), pairs("c = c'"))
        self.assertEqual(identity_pairs(plan, left, right, 7), pairs("a.k = b'.j"))

    def test_where_the_unlike_inputs_are(self):
        """In the right input of a join, but not in that of a semi, and not below a distinct."""
        union = scan(A) + scan(B)
        left, right = ("left",), ("right",)
        for root, number, wanted in (
                (scan(C).join_with(union, [("h", "k")]), 5, None),
                (scan(C).semi_with(union, [("h", "k")]), 5, pairs("c = c'")),
                (scan(C).anti_with(union, [("h", "k")]), 5, pairs("c = c'")),
                (union.semi_with(scan(C), [("k", "h")]), 5, None),
                (union.distinct().where("p", "k"), 5, pairs("a.k = b'.j", "a.x = b'.y")),
                (union.group_by("x").keep("x"), 5, pairs("a.x = b'.y"))):
            plan = Plan(root)
            found = identity_pairs(plan, Story(plan, left), Story(plan, right), number)
            self.assertEqual(found, wanted, root.kind)

    def test_one_union_above_another(self):
        plan = Plan(scan(A) + scan(B) + scan(C))
        words = ("left", "right")
        stories = {(one, other): Story(plan, (one, other)) for one in words for other in words}
        first = stories["left", "left"]
        self.assertEqual(identity_pairs(plan, first, stories["right", "left"], 5), None)
        self.assertEqual(identity_pairs(plan, first, stories["left", "right"], 5), None)
        self.assertEqual(identity_pairs(plan, first, first, 5), pairs("a = a'"))
        # The inner union is not met where the outer one is followed to the right.
        self.assertEqual(identity_pairs(plan, stories["left", "right"], stories["right", "right"], 5), pairs("c = c'"))
