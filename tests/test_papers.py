"""Papers: point 28, what a paper holds."""

import unittest

from splitplans.orders import broken_claim, claims
from splitplans.papercheck import shows_right
from splitplans.papers import Line, Paper, paper_of
from splitplans.places import State, failures, states
from splitplans.plans import Plan, scan
from splitplans.stories import Story, choices
from splitplans.tables import Table

from helpers import Dice
from planmaker import drawn_mended_plan

A = Table("a", ["k", "x"])
B = Table("b", ["j", "y"])
C = Table("c", ["h", "z"])
DEALT_A = A.with_lie(("dealt", "r", ("k",)))
DEALT_B = B.with_lie(("dealt", "r", ("y",)))
COPIED_C = C.with_lie(("copied",))
ZERO_A, ZERO_B, ZERO_C = (table.with_lie(("zero",)) for table in (A, B, C))


def words_of(reason):
    """A reason without its derivation."""
    return reason[:-1]


def lines_of(plan):
    """For each line its number, its state and the words of its reasons."""
    paper = paper_of(plan)
    assert shows_right(plan, paper)
    return [(line.number, str(line.state), [words_of(reason) for reason in line.reasons]) for line in paper]


def shape_of(case):
    """A case with how many derivations it has in their places."""
    if case[0] in ("equal", "one"):
        return (case[0], len(case[1])) if case[0] == "one" else "equal"
    if case[0] == "by":
        return ("by", case[1], len(case[2]))
    if case[0] == "both":
        return ("both", shape_of(case[1]), shape_of(case[2]))
    if case[0] in ("ties", "right"):
        return (case[0], len(case[1]), shape_of(case[2]))
    return (case[0], shape_of(case[-1]))


def shapes_of(root, *order):
    """The shapes of the cases of a right plan, which the looker takes."""
    plan = Plan(root, order)
    paper = paper_of(plan)
    assert shows_right(plan, paper)
    return [shape_of(case) for case in paper.cases]


class Papers(unittest.TestCase):
    def test_what_is_passed_is_copied(self):
        reasons = [("meet", [])]
        line = Line(1, (), State(), reasons)
        lines, cases = [line], [("equal", [])]
        paper = Paper(lines, cases)
        lines.clear()
        cases.clear()
        reasons.clear()
        self.assertEqual(list(paper), [line])
        self.assertEqual((paper.lines, paper.cases), ([line], [("equal", [])]))
        self.assertEqual((line.number, line.choice, line.reasons), (1, (), [("meet", [])]))
        self.assertEqual(line.state, State())

    def test_two_papers_share_nothing(self):
        plan = Plan(scan(ZERO_A).sort_by("k"), ["k"])
        first, second = paper_of(plan), paper_of(plan)
        first.lines[1].reasons.clear()
        first.lines[0].reasons.append(1)
        first.cases[0][2].append(1)
        first.cases.clear()
        self.assertTrue(shows_right(plan, second))
        self.assertEqual([len(line.reasons) for line in second], [0, 1])

    def test_none_by_a_failure(self):
        for root in (scan(A), scan(DEALT_A).group_by("x", n="count").gather(), scan(COPIED_C).gather(),
                     scan(COPIED_C).anti_with(scan(A), [("h", "k")])):
            self.assertEqual(paper_of(Plan(root)), None)

    def test_none_by_a_claim_alone(self):
        for root, order in ((scan(A).gather(), "k"), (scan(A).sort_by("k").gather(), "k"),
                            (scan(ZERO_A).sort_by("x"), "k"), (scan(ZERO_A) + scan(ZERO_B), "x")):
            self.assertEqual(failures(Plan(root)), [])
            self.assertIsInstance(paper_of(Plan(root)), Paper)
            self.assertEqual(paper_of(Plan(root, [order])), None)


class Lines(unittest.TestCase):
    def test_one_for_each_choice_and_step_met(self):
        plan = Plan((scan(ZERO_A) + scan(ZERO_B)).keep("k"))
        paper = paper_of(plan)
        self.assertEqual([(line.number, line.choice) for line in paper],
                         [(1, ("left",)), (3, ("left",)), (4, ("left",)),
                          (2, ("right",)), (3, ("right",)), (4, ("right",))])

    def test_meets(self):
        """An equal above the join counts for it, too."""
        joined = scan(DEALT_A).join_with(scan(DEALT_B), [("x", "j")]).equal("k", "y").gather()
        plan = Plan(joined)
        self.assertEqual(lines_of(plan), [
            (1, "at r[a.k]", []), (2, "at r[b.y]", []), (3, "at r[a.k]", [("meet",)]),
            (4, "at r[a.k]", []), (5, "at 0", [("answer",)])])
        meet = paper_of(plan).lines[2].reasons[0]
        self.assertEqual(meet[1][0], ("fact", 1))
        own = Plan(scan(DEALT_A).own_by("r", "k").gather())
        self.assertEqual(lines_of(own)[1], (2, "at r[a.k]", [("meet",)]))
        # The input's state is kept, and stands on the left.
        other = Plan(scan(DEALT_A).equal("x", "k").own_by("r", "x").gather())
        self.assertEqual(lines_of(other)[2], (3, "at r[a.k]", [("meet",)]))
        self.assertEqual([str(term) for term in paper_of(other).lines[2].reasons[0][1][-1][1:3]], ["r[a.k]", "r[a.x]"])

    def test_antis_that_wait(self):
        anti = scan(COPIED_C).anti_with(scan(DEALT_A), [("h", "k")])
        own = Plan(anti.own_by("r", "h").gather())
        self.assertEqual(lines_of(own)[2:], [
            (3, "everywhere, wants 3 r[a.k]", []), (4, "at r[c.h]", [("want", 3)]), (5, "at 0", [("answer",)])])
        joined = Plan(anti.join_with(scan(DEALT_B), [("h", "y")]).gather())
        self.assertEqual(lines_of(joined)[4], (5, "at r[b.y]", [("want", 3)]))
        before = Plan(scan(DEALT_B).anti_with(scan(DEALT_A), [("y", "k")]).gather())
        self.assertEqual(lines_of(before)[2], (3, "at r[b.y]", [("want", 3)]))

    def test_two_wants(self):
        anti = scan(COPIED_C).anti_with(scan(DEALT_A), [("h", "k")]).anti_with(scan(DEALT_B), [("h", "y")])
        self.assertEqual(lines_of(Plan(anti.own_by("r", "h").gather()))[5], (6, "at r[c.h]", [("want", 3), ("want", 5)]))
        zero = scan(COPIED_C).anti_with(scan(ZERO_A), [("h", "k")]).anti_with(scan(ZERO_B), [("h", "y")])
        self.assertEqual(lines_of(Plan(zero))[4],
                         (5, "everywhere, wants 3 0, 5 0", [("answer want", 3), ("answer want", 5)]))

    def test_everywhere_asks_nothing(self):
        self.assertEqual(lines_of(Plan(scan(COPIED_C).distinct())), [(1, "everywhere", []), (2, "everywhere", [])])
        everywhere = scan(COPIED_C).anti_with(scan(A.with_lie(("copied",))), [("h", "k")])
        self.assertEqual([words for _, _, words in lines_of(Plan(everywhere))], [[], [], []])

    def test_steps_in_an_antis_right_side(self):
        right = scan(DEALT_A).join_with(scan(DEALT_B), [("k", "y")])
        plan = Plan(scan(ZERO_C).anti_with(right.gather(), [("h", "k")]))
        self.assertEqual(lines_of(plan)[3], (4, "at r[a.k]", [("meet",)]))

    def test_together(self):
        grouped = Plan(scan(DEALT_A).group_by("k", n="count").gather())
        self.assertEqual(lines_of(grouped)[1], (2, "at r[a.k]", [("together", ())]))
        root = Plan(scan(ZERO_A).group_by("k", n="count"))
        self.assertEqual(lines_of(root)[1], (2, "at 0", [("together", ()), ("answer",)]))
        parts = Plan(scan(A).group_by("k", n="count").split_by("r", "k").group_by("k", m=("sum", "n")).gather())
        self.assertEqual([words for _, _, words in lines_of(parts)], [[], [], [], [("together", ())], [("answer",)]])

    def test_together_by_a_key(self):
        keyed = Plan(scan(A.with_key("x")).group_by("x", "k", n="count").gather())
        self.assertEqual(lines_of(keyed)[1], (2, "at @a", [("together", ())]))
        self.assertEqual(paper_of(keyed).lines[1].reasons[0][2][-1][0], "apply")

    def test_together_with_each_choice_that_fits(self):
        left, right = ("left",), ("right",)
        union = scan(A).split_by("r", "k") + scan(B).split_by("r", "j")
        plan = Plan(union.group_by("k", n="count").gather())
        found = {line.choice: [words_of(reason) for reason in line.reasons]
                 for line in paper_of(plan) if line.number == 6}
        self.assertEqual(found, {left: [("together", left), ("together", right)],
                                 right: [("together", left), ("together", right)]})

    def test_all_reasons_of_one_line(self):
        """A semi at the root: its left row waits for an anti, its right one comes together."""
        left = scan(COPIED_C).anti_with(scan(ZERO_A), [("h", "k")])
        plan = Plan(left.semi_with(scan(ZERO_B), [("h", "j")]))
        self.assertEqual(lines_of(plan)[4], (5, "at 0", [("want", 3), ("together", ()), ("answer",)]))
        meets = Plan(scan(ZERO_A).semi_with(scan(ZERO_B), [("k", "j")]))
        self.assertEqual(lines_of(meets)[2], (3, "at 0", [("meet",), ("together", ()), ("answer",)]))

    def test_states_are_the_plans(self):
        for seed in range(60):
            plan = drawn_mended_plan(Dice(seed))
            paper = paper_of(plan)
            if paper is not None:
                known = states(plan)
                wanted = [(number, choice) for choice in choices(plan) for number in Story(plan, choice).met]
                self.assertEqual([(line.number, line.choice) for line in paper], wanted)
                for line in paper:
                    self.assertEqual(line.state, known[line.number, line.choice])
                self.assertEqual(len(paper.cases), len(claims(plan)))


class Cases(unittest.TestCase):
    def test_none_without_an_order(self):
        self.assertEqual(paper_of(Plan(scan(ZERO_A))).cases, [])

    def test_by(self):
        a = scan(ZERO_A)
        self.assertEqual(shapes_of(a.sort_by("k"), "k"), [("by", 0, 0)])
        self.assertEqual(shapes_of(a.sort_by("k", "x"), "k", "x"), [("by", 0, 0), ("by", 1, 1)])
        self.assertEqual(shapes_of(a.group_by("k", "x"), "k", "x"), [("by", 0, 0), ("by", 1, 1)])
        self.assertEqual(shapes_of(a.distinct(), "k", "x"), [("by", 0, 0), ("by", 1, 1)])

    def test_equal(self):
        a = scan(ZERO_A).sort_by("k")
        self.assertEqual(shapes_of(a.compute("n", "f", "k"), "k", "n"), [("pass", ("by", 0, 0)), "equal"])
        keyed = scan(ZERO_A.with_key("k")).sort_by("k")
        self.assertEqual(shapes_of(keyed, "k", "x"), [("by", 0, 0), "equal"])

    def test_pass(self):
        base = scan(ZERO_A).sort_by("k")
        b = scan(ZERO_B)
        for root in (base.where("p", "x"), base.equal("k", "x"), base.keep("k"), base.compute("n", "f", "k"),
                     base.semi_with(b, [("x", "j")]), base.anti_with(b, [("x", "j")])):
            self.assertEqual(shapes_of(root, "k"), [("pass", ("by", 0, 0))])
        own = scan(DEALT_A).sort_by("k").own_by("r", "k").merge_by("k")
        self.assertEqual(shapes_of(own, "k"), [("both", ("pass", ("by", 0, 0)), ("by", 0, 0))])
        union = base + scan(ZERO_B)
        self.assertEqual(broken_claim(Plan(union, ["k"])), (("left",), ("right",), 0))

    def test_ties(self):
        a = scan(ZERO_A).sort_by("x").sort_by("k")
        self.assertEqual(shapes_of(a, "k", "x"), [("by", 0, 0), ("ties", 1, ("by", 0, 0))])

    def test_joins(self):
        on = [("k", "j")]
        left = scan(ZERO_A).sort_by("k").join_with(scan(ZERO_B), on)
        self.assertEqual(shapes_of(left, "k"), [("left", ("by", 0, 0))])
        keyed = scan(ZERO_A.with_key("k")).sort_by("k").join_with(scan(ZERO_B).sort_by("y"), on)
        self.assertEqual(shapes_of(keyed, "k", "y"), [("left", ("by", 0, 0)), ("right", 1, ("by", 0, 0))])

    def test_exchanges(self):
        dealt = scan(DEALT_A).sort_by("k", "x")
        self.assertEqual(shapes_of(dealt.merge_by("k"), "k", "x"),
                         [("both", ("by", 0, 0), ("by", 0, 0)), ("sender", ("by", 1, 1))])
        self.assertEqual(shapes_of(scan(ZERO_A).sort_by("k").gather(), "k"), [("sender", ("by", 0, 0))])
        self.assertEqual(shapes_of(scan(ZERO_A).sort_by("k").broadcast(), "k"), [("sender", ("by", 0, 0))])
        self.assertEqual(shapes_of(scan(A).sort_by("k").where("p", "x").merge_by("k"), "k"),
                         [("both", ("pass", ("by", 0, 0)), ("by", 0, 0))])

    def test_unions(self):
        root = (scan(ZERO_A) + scan(ZERO_B)).sort_by("k")
        self.assertEqual(shapes_of(root, "k"), [("by", 0, 0)] * 3)
        below = (scan(ZERO_A) + scan(ZERO_B)).group_by("k").join_with(scan(ZERO_C).sort_by("z"), [("k", "h")])
        self.assertEqual(shapes_of(below, "k", "z"),
                         [("left", ("by", 0, 0)), ("right", 1, ("by", 0, 0))] * 3)
