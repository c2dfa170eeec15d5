"""The looker of papers: point 28, what shows that a plan is right and what does not."""

import unittest

from splitplans.equalities import Equalities
from splitplans.orders import claim_facts
from splitplans.papercheck import shows_right
from splitplans.papers import Line, Paper, paper_of
from splitplans.places import State
from splitplans.plans import Plan, scan
from splitplans.stories import Story
from splitplans.tables import Table
from splitplans.terms import place_term, row_term, zero_term

from helpers import Dice, read
from planmaker import drawn_mended_plan

A = Table("a", ["k", "x"], lies=("zero",))
B = Table("b", ["j", "y"], lies=("zero",))
C = Table("c", ["h", "z"], lies=("zero",))
FREE_A = A.with_lie(("anyhow",))
DEALT_A = A.with_lie(("dealt", "r", ("k",)))
DEALT_B = B.with_lie(("dealt", "r", ("y",)))
COPIED_C = C.with_lie(("copied",))


def anew(line, **more):
    """A line like this one, but for what is told."""
    told = {"number": line.number, "choice": line.choice, "state": line.state, "reasons": line.reasons}
    return Line(**{**told, **more})


def with_line(paper, at, *lines):
    return Paper(paper.lines[:at] + list(lines) + paper.lines[at + 1:], paper.cases)


def plan_of_everything():
    """Two choices, a join, an anti that waits, a group that brings together, an order."""
    anti = scan(COPIED_C).anti_with(scan(DEALT_A), [("h", "k")])
    union = scan(DEALT_B).keep("y", "j") + anti.own_by("r", "h")
    return Plan(union.group_by("y", "j", n="count").merge_by("y", "j"), ["y", "j"])


class Lines(unittest.TestCase):
    def setUp(self):
        self.plan = plan_of_everything()
        self.paper = paper_of(self.plan)
        self.lines = self.paper.lines

    def takes(self, paper):
        return shows_right(self.plan, paper)

    def test_a_paper_put_together_anew(self):
        self.assertTrue(self.takes(self.paper))
        lines = [anew(line) for line in self.paper]
        self.assertTrue(self.takes(Paper(lines, self.paper.cases)))
        self.assertTrue(self.takes(paper_of(Plan.read(str(self.plan)))))
        self.assertTrue(any(line.reasons for line in self.paper))

    def test_no_paper(self):
        self.assertFalse(self.takes(None))
        self.assertFalse(self.takes(Paper([], [])))
        self.assertFalse(self.takes(Paper([], self.paper.cases)))

    def test_lines_left_out_twice_and_exchanged(self):
        for at in range(len(self.lines)):
            line = self.lines[at]
            self.assertFalse(self.takes(with_line(self.paper, at)))
            self.assertFalse(self.takes(with_line(self.paper, at, line, line)))
            self.assertFalse(self.takes(Paper(self.lines + [line], self.paper.cases)))
            for other in range(at):
                turned = list(self.lines)
                turned[at], turned[other] = turned[other], turned[at]
                self.assertFalse(self.takes(Paper(turned, self.paper.cases)))

    def test_lines_that_are_none(self):
        for at in range(len(self.lines)):
            line = self.lines[at]
            for thing in (None, "line", 1, [], (), (line.number, line.choice, line.state, line.reasons), [line]):
                self.assertFalse(self.takes(with_line(self.paper, at, thing)))

    def test_other_numbers_choices_and_states(self):
        for at in range(len(self.lines)):
            line = self.lines[at]
            states = [State(), State(zero_term()), State(place_term("a")), State(None, [(4, read("r[a.k]"))]),
                      State(None, [(5, read("r[a.k]"))])]
            wrong = [{"number": number} for number in (line.number + 1, -1, 0, None, "1", str(line.number), True)
                     if number is True or number != line.number]
            wrong += [{"choice": choice} for choice in ((), ["left"], list(line.choice), None, "left", ("up",),
                                                        line.choice + line.choice)]
            wrong += [{"state": state} for state in states if state != line.state]
            wrong += [{"state": thing} for thing in (None, str(line.state), line.state.term, 0)]
            for more in wrong:
                self.assertFalse(self.takes(with_line(self.paper, at, anew(line, **more))), (at, more))

    def test_reasons(self):
        for at in range(len(self.lines)):
            line = self.lines[at]
            for reasons in changed_lists(line.reasons):
                self.assertFalse(self.takes(with_line(self.paper, at, anew(line, reasons=reasons))), (at, reasons))

    def test_derivations(self):
        for at in range(len(self.lines)):
            line = self.lines[at]
            for place in range(len(line.reasons)):
                reason = line.reasons[place]
                for steps in wrong_derivations(reason[-1]):
                    reasons = list(line.reasons)
                    reasons[place] = reason[:-1] + (steps,)
                    self.assertFalse(self.takes(with_line(self.paper, at, anew(line, reasons=reasons))), (at, steps))

    def test_derivations_that_go_on(self):
        lines = [anew(line, reasons=[gone_on(reason) for reason in line.reasons]) for line in self.paper]
        self.assertTrue(self.takes(Paper(lines, self.paper.cases)))

    def test_the_paper_of_another_plan(self):
        others = [Plan(self.plan.root), Plan(self.plan.root, ["y"]), Plan(self.plan.root.keep("y", "j"), ["y", "j"]),
                  Plan(scan(A)), Plan.read(str(self.plan).replace("c.h", "c.z").replace("own 5 r h", "own 5 q h"))]
        for other in others:
            self.assertFalse(shows_right(other, self.paper))
            own = paper_of(other)
            if own is not None:
                self.assertTrue(shows_right(other, own))
                self.assertFalse(self.takes(own))


def gone_on(reason):
    """The reason with a derivation that states the same once more."""
    steps = reason[-1]
    return reason[:-1] + (steps + [("turn", len(steps) - 1), ("turn", len(steps))],)


def changed_lists(reasons):
    """Lists that are no longer these reasons."""
    found = [reasons + [("answer", [("self", zero_term())])], reasons + [None], [None] * len(reasons) + [()]]
    for at in range(len(reasons)):
        before, reason, behind = reasons[:at], reasons[at], reasons[at + 1:]
        found.append(before + behind)
        found.append(before + [reason, reason] + behind)
        others = [None, "meet", list(reason), (), reason[:-1], reason + (1,), reason[::-1], (reason,)]
        for word in ("meet", "want", "together", "answer", "answer want", "", None, ("meet",)):
            if word != reason[0]:
                others.append((word,) + reason[1:])
        if len(reason) == 3:
            for word in (None, True, 0, 99, (), ("up",), [], "left", ["left"]):
                others.append((reason[0], word, reason[2]))
        found.extend(before + [other] + behind for other in others)
    if len(reasons) > 1 and reasons[::-1] != reasons:
        found.append(reasons[::-1])
    return found


def wrong_derivations(steps):
    """No derivations of what these steps derive."""
    found = [[], tuple(steps), None, "steps", 0, steps + [("self", row_term("a"))], steps + [None],
             [("fact", 99)], [("fact", -1)], [("fact", True)], [("self", None)], [steps], steps + [("turn", True)]]
    if len(steps) > 1:
        found.append(steps[:-1])
        found.append(steps[::-1])
    return found


class Facts(unittest.TestCase):
    """Which facts, in which order, a derivation may rest on."""

    def line_with(self, plan, number, *reasons, choice=()):
        paper = paper_of(plan)
        at = [(line.number, line.choice) for line in paper].index((number, choice))
        return shows_right(plan, with_line(paper, at, anew(paper.lines[at], reasons=list(reasons))))

    def derived(self, facts, left, right, table_keys=None):
        return Equalities(facts, table_keys).derive(read(left), read(right))

    def test_the_level_of_a_want(self):
        anti = scan(COPIED_C).anti_with(scan(DEALT_A), [("h", "k")]).own_by("r", "h").gather()
        plan = Plan(anti.where("p", "h"))
        steps = self.derived(Story(plan, ()).facts_at((3,)), "r[c.h]", "r[a.k]")
        self.assertTrue(self.line_with(plan, 4, ("want", 3, steps)))
        turned = self.derived(Story(plan, ()).facts_at((3,)), "r[a.k]", "r[c.h]")
        self.assertFalse(self.line_with(plan, 4, ("want", 3, turned)))
        self.assertFalse(self.line_with(plan, 4, ("want", 4, steps)))
        self.assertFalse(self.line_with(plan, 4, ("meet", steps)))

    def test_the_level_of_a_meet(self):
        """The anti's pairs are no facts of the story."""
        plan = Plan(scan(A).anti_with(scan(B).join_with(scan(C), [("j", "h")]), [("k", "j")]))
        self.assertTrue(shows_right(plan, paper_of(plan)))
        self.assertTrue(self.line_with(plan, 4, ("meet", [("self", zero_term())])))
        fact = [("self", zero_term()), ("fact", 0), ("self", zero_term())]
        self.assertTrue(self.line_with(plan, 4, ("meet", fact)))
        # Level (5,) has two facts, that of the anti and that of the join.
        self.assertTrue(self.line_with(plan, 4, ("meet", [("fact", 1), ("self", zero_term())])))
        self.assertFalse(self.line_with(plan, 4, ("meet", [("fact", 2), ("self", zero_term())])))
        self.assertTrue(self.line_with(plan, 5, ("want", 5, [("fact", 1), ("self", zero_term())]),
                                       ("answer", [("self", zero_term())])))
        self.assertFalse(self.line_with(plan, 5, ("want", 5, [("self", zero_term())]),
                                        ("answer", [("fact", 0), ("self", zero_term())])))

    def test_keys_count_for_what_comes_together_alone(self):
        keyed = Plan(scan(FREE_A.with_key("k")).group_by("k", n="count").gather())
        steps = [("fact", 0), ("key", "a", [0]), ("apply", read("@a"), read("@a'"), [1])]
        self.assertTrue(self.line_with(keyed, 2, ("together", (), steps)))
        self.assertFalse(self.line_with(keyed, 2, ("together", (), steps[1:])))
        zero = [("self", zero_term())]
        plan = Plan(scan(A.with_key("k")).semi_with(scan(B), [("k", "j")]))
        key = [("self", read("a.k")), ("key", "a", [0]), ("self", zero_term())]
        self.assertTrue(self.line_with(plan, 3, ("meet", zero), ("together", (), zero), ("answer", zero)))
        self.assertFalse(self.line_with(plan, 3, ("meet", key), ("together", (), zero), ("answer", zero)))

    def test_a_plan_that_fails_has_no_paper(self):
        """The states of a plan with copies or junk, and each reason that is asked for, are not enough."""
        copies = Plan(scan(COPIED_C).gather())
        zero = [("self", zero_term())]
        lines = [Line(1, (), State(), []), Line(2, (), State(zero_term()), [("answer", zero)])]
        self.assertFalse(shows_right(copies, Paper(lines, [])))
        loose = Plan(scan(COPIED_C).gather().distinct())
        lines.append(Line(3, (), State(zero_term()), [("together", (), zero), ("answer", zero)]))
        lines[1] = Line(2, (), State(zero_term()), [])
        self.assertTrue(shows_right(loose, Paper(lines, [])))

    def test_junk_has_no_paper(self):
        anti = scan(COPIED_C).anti_with(scan(DEALT_A), [("h", "k")])
        plan = Plan(anti.gather().distinct())
        zero = [("self", zero_term())]
        lines = [Line(1, (), State(), []), Line(2, (), State(read("r[a.k]")), []),
                 Line(3, (), State(None, [(3, read("r[a.k]"))]), []), Line(4, (), State(zero_term()), []),
                 Line(5, (), State(zero_term()), [("together", (), zero), ("answer", zero)])]
        self.assertFalse(shows_right(plan, Paper(lines, [])))


def case_taken(plan, case, at=0):
    """Whether the looker takes a case in place of the one of the plan's paper."""
    paper = paper_of(plan)
    return shows_right(plan, Paper(paper.lines, paper.cases[:at] + [case] + paper.cases[at + 1:]))


class Cases(unittest.TestCase):
    def derive(self, plan, at, left, right):
        claim = ((), (), at)
        keys = Story(plan, ()).table_keys()
        return Equalities(claim_facts(plan, *claim), keys).derive(read(left), read(right))

    def test_cases_left_out_twice_and_exchanged(self):
        plan = plan_of_everything()
        paper = paper_of(plan)
        cases = paper.cases
        self.assertEqual(len(cases), 6)
        for at in range(6):
            for wrong in (cases[:at] + cases[at + 1:], cases[:at] + [cases[at]] + cases[at:], cases + [cases[at]],
                          cases[:at] + [None] + cases[at + 1:], cases[at + 1:] + cases[:at + 1] if at < 5 else []):
                self.assertFalse(shows_right(plan, Paper(paper.lines, wrong)))
        self.assertFalse(shows_right(plan, Paper(paper.lines, [])))

    def test_by(self):
        plan = Plan(scan(A).sort_by("k", "x"), ["k", "x"])
        first, second = [("self", read("a.k"))], [("self", read("a'.k"))]
        tie = [("fact", 0)]
        good = ("by", 0, [], (first, second))
        self.assertTrue(case_taken(plan, good))
        more = ("by", 1, [tie], ([("self", read("a.x"))], [("self", read("a'.x"))]))
        self.assertTrue(case_taken(plan, more, 1))
        # The column may be one that is equal, too.
        for wrong in (("by", True, [tie], more[3]), ("by", 1, [], more[3]), ("by", 1, [tie, tie], more[3]),
                      ("by", 1, (tie,), more[3]), ("by", 1, [tie], list(more[3])), ("by", 1, [tie], more[3][:1]),
                      ("by", 1, [tie], more[3] * 2), ("by", 1, [tie], more[3][::-1]), ("by", -1, [tie], more[3]),
                      ("by", 2, [tie, tie], more[3]), ("by", 1, [tie]), ("by", 1, [tie], more[3], 0),
                      ["by", 1, [tie], more[3]], ("by", None, [tie], more[3]), ("by", "1", [tie], more[3]),
                      ("by", 1, [[]], more[3]), ("by", 1, None, more[3]), ("by", 1, [tie], None), good):
            self.assertFalse(case_taken(plan, wrong, 1), wrong)
        for wrong in (("by", False, [], (first, second)), ("by", 0, [], (second, first)), ("by", 0, [first], good[3]),
                      ("by", 1, [[("fact", 0)]], good[3]), more):
            self.assertFalse(case_taken(plan, wrong), wrong)

    def test_by_a_column_that_is_equal(self):
        plan = Plan(scan(A).equal("k", "x").sort_by("x", "k"), ["k"])
        told = ([("fact", 0), ("turn", 0)], [("fact", 1), ("turn", 0)])
        self.assertTrue(case_taken(plan, ("by", 0, [], told)))
        tied = Plan(scan(A).sort_by("k", "x"), ["k", "x"])
        back = ([("self", read("a.x"))], [("self", read("a'.x"))])
        self.assertTrue(case_taken(tied, ("by", 1, [[("fact", 0)]], back), 1))

    def test_equal(self):
        plan = Plan(scan(A).sort_by("k").compute("n", "f", "k"), ["k", "n"])
        steps = self.derive(plan, 1, "f(a.k)", "f(a'.k)")
        self.assertTrue(case_taken(plan, ("equal", steps), 1))
        # A case that does more than it must.
        self.assertTrue(case_taken(plan, ("pass", ("equal", steps)), 1))
        self.assertTrue(case_taken(plan, ("pass", ("ties", [[("fact", 0)]], ("equal", steps))), 1))
        for wrong in (("equal", []), ("equal", tuple(steps)), ("equal", steps, steps), ("equal",), ["equal", steps],
                      ("equal", [steps]), ("one", steps), ("one", [steps]), ("equal", steps + [("self", read("a.k"))]),
                      ("pass", ("pass", ("equal", steps)), 0), ("ties", [], ("equal", steps))):
            self.assertFalse(case_taken(plan, wrong, 1), wrong)
        self.assertFalse(case_taken(plan, ("equal", steps), 0))

    def test_one(self):
        plan = Plan(scan(A.with_key("k")).sort_by("k"), ["k", "x"])
        row = [("fact", 0), ("key", "a", [0])]
        one = ("one", [row])
        self.assertTrue(case_taken(plan, one, 1))
        self.assertTrue(case_taken(plan, ("ties", [[("fact", 0)]], one), 1))
        for wrong in (("one", row), ("one", []), ("one", [row, row]), ("one", (row,)), ("one", [row[:1]]), ("one", row, 1),
                      ("one", None), ("ties", [], one), ("ties", [row], one), ("ties", [[("fact", 0)]], one, one),
                      ("ties", ([("fact", 0)],), one), ("ties", [[("fact", 0)]], [one]), ("pass", one), ("sender", row, one),
                      ("left", one), ("right", [], one), ("both", one, one)):
            self.assertFalse(case_taken(plan, wrong, 1), wrong)
        self.assertFalse(case_taken(plan, one, 0))

    def test_joins(self):
        root = scan(A.with_key("k")).sort_by("k").join_with(scan(B).sort_by("y"), [("k", "j")])
        plan = Plan(root, ["k", "y", "x"])
        row = self.derive(plan, 1, "a", "a'")
        by_y = ("by", 0, [], ([("self", read("b.y"))], [("self", read("b'.y"))]))
        self.assertTrue(case_taken(plan, ("right", [row], by_y), 1))
        for wrong in (("left", by_y), ("right", [], by_y), ("right", [row, row], by_y), ("right", row, by_y),
                      ("right", (row,), by_y), ("right", [row]), ("pass", by_y), by_y, ("right", [row], None)):
            self.assertFalse(case_taken(plan, wrong, 1), wrong)
        by_k = ("by", 0, [], ([("self", read("a.k"))], [("self", read("a'.k"))]))
        self.assertTrue(case_taken(plan, ("left", by_k)))
        self.assertFalse(case_taken(plan, ("right", [row], by_k)))

    def test_left_where_the_left_rows_are_one(self):
        root = scan(A.with_key("k")).sort_by("k").join_with(scan(B).sort_by("y"), [("k", "j")])
        plan = Plan(root, ["k", "x", "y"])
        row = self.derive(plan, 1, "a", "a'")
        same = self.derive(plan, 1, "a.x", "a'.x")
        tie = [[("fact", 2)]]
        self.assertEqual(str(claim_facts(plan, (), (), 1)[2][0]), "a.k")
        self.assertTrue(case_taken(plan, ("equal", same), 1))
        self.assertTrue(case_taken(plan, ("left", ("equal", same)), 1))
        self.assertTrue(case_taken(plan, ("left", ("ties", tie, ("equal", same))), 1))
        # That the left rows are one says nothing of what the join makes of one.
        for wrong in (("left", ("one", [row])), ("left", ("ties", tie, ("one", [row])))):
            self.assertFalse(case_taken(plan, wrong, 1), wrong)
        self.assertFalse(case_taken(plan, ("left", ("one", [row])), 2))
        self.assertFalse(case_taken(plan, ("right", [row], ("ties", [], ("one", []))), 2))

    def test_no_one_anywhere_below_a_left(self):
        """Not behind a right either: the rows of the inner join would be one."""
        on = [("k", "j")]
        inner = scan(A.with_key("k")).sort_by("k").join_with(scan(B.with_key("j")).sort_by("j"), on)
        plan = Plan(inner.join_with(scan(C).sort_by("z"), [("k", "h")]), ["k", "x", "z"])
        ours, theirs = self.derive(plan, 1, "a", "a'"), self.derive(plan, 1, "b", "b'")
        same = self.derive(plan, 1, "a.x", "a'.x")
        self.assertTrue(case_taken(plan, ("left", ("right", [ours], ("equal", same))), 1))
        self.assertTrue(case_taken(plan, ("left", ("left", ("equal", same))), 1))
        self.assertFalse(case_taken(plan, ("left", ("right", [ours], ("one", [theirs]))), 1))
        self.assertFalse(case_taken(plan, ("left", ("left", ("one", [ours]))), 1))
        self.assertFalse(case_taken(plan, ("left", ("one", [ours, theirs])), 1))
        by_z = ("by", 0, [], ([("self", read("c.z"))], [("self", read("c'.z"))]))
        self.assertTrue(case_taken(plan, ("right", [ours, theirs], by_z), 2))
        self.assertFalse(case_taken(plan, ("right", [theirs, ours], by_z), 2))
        self.assertFalse(case_taken(plan, ("left", ("right", [ours], ("one", [theirs]))), 2))

    def test_one_below_a_right(self):
        inner = scan(A.with_key("k")).sort_by("k").join_with(scan(B.with_key("j")), [("k", "j")])
        plan = Plan(inner, ["k", "y"])
        ours, theirs = self.derive(plan, 1, "a", "a'"), self.derive(plan, 1, "b", "b'")
        self.assertTrue(case_taken(plan, ("right", [ours], ("one", [theirs])), 1))
        self.assertTrue(case_taken(plan, ("one", [ours, theirs]), 1))
        self.assertFalse(case_taken(plan, ("one", [theirs, ours]), 1))
        self.assertFalse(case_taken(plan, ("right", [theirs], ("one", [ours])), 1))

    def test_pass(self):
        for root in (scan(A).sort_by("k").where("p", "x"), scan(A).sort_by("k").keep("x", "k"),
                     scan(A).sort_by("k").semi_with(scan(B), [("k", "j")])):
            plan = Plan(root, ["k"])
            by_k = paper_of(plan).cases[0][1]
            self.assertEqual(by_k[0], "by")
            self.assertTrue(case_taken(plan, ("pass", by_k)))
            for wrong in (by_k, ("pass", ("pass", by_k)), ("pass", by_k, 0), ("pass",), ["pass", by_k], ("left", by_k),
                          ("ties", [], by_k), ("sender", [("self", zero_term())], by_k), ("past", by_k), (1, by_k), ()):
                self.assertFalse(case_taken(plan, wrong), wrong)

    def test_sender_and_both(self):
        plan = Plan(scan(DEALT_A).sort_by("k", "x").merge_by("k"), ["k", "x"])
        sent = self.derive(plan, 1, "r[a.k]", "r[a'.k]")
        by_k, by_x = paper_of(plan).cases[0][2], paper_of(plan).cases[1][2]
        self.assertEqual((by_k[1], by_x[1]), (0, 1))
        self.assertTrue(case_taken(plan, ("both", by_k, by_k)))
        self.assertTrue(case_taken(plan, ("sender", sent, by_x), 1))
        for wrong in (("both", by_k, ("equal", [])), ("both", by_x, by_k), ("both", by_k), ("both", by_k, by_k, by_k),
                      ("both", ("both", by_k, by_k), by_k), ["both", by_k, by_k], ("sender", sent, by_k), by_k,
                      ("sender", [("fact", 0)], by_k), ("pass", by_k), ("both", by_k, ("both", by_k, by_k))):
            self.assertFalse(case_taken(plan, wrong), wrong)
        for wrong in (("both", by_x, by_x), ("sender", [], by_x), ("sender", by_x), ("sender", sent), by_x,
                      ("sender", tuple(sent), by_x), ("sender", sent, by_x, 0)):
            self.assertFalse(case_taken(plan, wrong, 1), wrong)

    def test_both_has_one_sender_as_its_last_fact(self):
        plan = Plan(scan(FREE_A).sort_by("k").merge_by("k"), ["k"])
        by_k = paper_of(plan).cases[0][2]
        told = ([("fact", 0), ("self", read("a.k"))], [("self", read("a'.k"))])
        with_fact = ("by", 0, [], told)
        self.assertTrue(case_taken(plan, ("both", by_k, by_k)))
        self.assertTrue(case_taken(plan, ("both", with_fact, by_k)))
        self.assertFalse(case_taken(plan, ("both", by_k, with_fact)))
        self.assertFalse(case_taken(plan, ("both", ("by", 0, [], ([("fact", 1), ("self", read("a.k"))], told[1])), by_k)))

    def test_both_where_there_is_one_sender_anyway(self):
        plan = Plan(scan(A).sort_by("k").merge_by("k"), ["k"])
        by_k = paper_of(plan).cases[0][2]
        self.assertEqual(paper_of(plan).cases[0][0], "sender")
        self.assertTrue(case_taken(plan, ("both", by_k, by_k)))
        gathered = Plan(scan(A).sort_by("k").gather(), ["k"])
        self.assertFalse(case_taken(gathered, ("both", by_k, by_k)))
        self.assertTrue(case_taken(gathered, ("sender", [("self", zero_term())], by_k)))

    def test_both_stands_at_a_merge_alone(self):
        plan = Plan(scan(A).sort_by("k").split_by("r", "k").sort_by("k").merge_by("k"), ["k"])
        by_k = paper_of(plan).cases[0][2]
        below = ("sender", [("self", zero_term())], by_k)
        split = ("sender", [("fact", 0)], below)
        self.assertTrue(case_taken(plan, ("both", by_k, by_k)))
        for wrong in (split, ("both", by_k, None), ("both", None, by_k), ("both", by_k, ()), ("both", by_k, ["by"]),
                      ("both", by_k, ("equal", []))):
            self.assertFalse(case_taken(plan, wrong), wrong)
        free = Plan(scan(A).sort_by("k").split_by("r", "k").group_by("k").merge_by("k"), ["k"])
        self.assertTrue(shows_right(free, paper_of(free)))
        ties = Plan(scan(A).sort_by("k", "x").split_by("r", "k").sort_by("k").merge_by("k"), ["k", "x"])
        self.assertEqual(paper_of(ties).cases[1][0], "sender")
        sent, (_, tie, inner) = paper_of(ties).cases[1][1:]
        self.assertEqual(inner[0], "sender")
        by_x = inner[2]
        self.assertTrue(case_taken(ties, ("sender", sent, ("ties", tie, inner)), 1))
        told = ([("self", read("a.k"))], [("self", read("a'.k"))])
        same = ("by", 0, [], told)
        self.assertFalse(case_taken(ties, ("sender", sent, ("ties", tie, ("both", by_x, same))), 1))
        self.assertFalse(case_taken(ties, ("sender", sent, ("ties", tie, ("both", by_x, by_x))), 1))

    def test_both_at_a_split_whose_column_would_tell(self):
        equal = scan(A).equal("k", "x").sort_by("k").split_by("r", "k").sort_by("k").merge_by("k")
        plan = Plan(equal, ["k", "x"])
        by_k = ("by", 0, [], ([("fact", 0)], [("fact", 1)]))
        sent = Equalities(claim_facts(plan, (), (), 1)).derive(read("r[a.k]"), read("r[a'.k]"))
        tie, zero = [[("fact", 2)]], [("self", zero_term())]
        for inner, wanted in ((("sender", zero, by_k), True), (("both", by_k, by_k), False), (by_k, False)):
            self.assertEqual(case_taken(plan, ("sender", sent, ("ties", tie, inner)), 1), wanted)
        self.assertTrue(case_taken(plan, ("both", ("ties", tie, ("sender", zero, by_k)), by_k), 1))

    def test_facts_ahead_of_one_sender(self):
        plan = Plan(scan(FREE_A).sort_by("k", "x").merge_by("k", "x"), ["k", "x"])
        first, by_x = [("self", read("a'.x"))], paper_of(plan).cases[1][2]
        for fact, wanted in ((0, True), (1, True), (2, False)):
            told = ([("fact", fact), ("self", read("a.x"))], first)
            inner = ("by", 1, [[("fact", 0)]], told)
            self.assertEqual(case_taken(plan, ("both", inner, by_x), 1), wanted)
        self.assertTrue(case_taken(plan, ("both", by_x, by_x), 1))
        # One sender is no fact of the claim, but of the first part alone.
        late = ("by", 1, [[("fact", 0)]], ([("fact", 1), ("self", read("a.x"))], first))
        self.assertFalse(case_taken(plan, ("both", by_x, late), 1))
        self.assertFalse(case_taken(plan, ("both", ("by", 1, [[("fact", 1)]], by_x[3]), by_x), 1))

    def test_right_stands_at_a_join_alone(self):
        keyed = scan(A.with_key("k")).sort_by("k")
        plan = Plan(keyed.semi_with(scan(B).sort_by("y"), [("k", "j")]).compute("n", "f", "k"), ["k", "n"])
        same = paper_of(plan).cases[1]
        self.assertEqual(same[0], "equal")
        row = Equalities(claim_facts(plan, (), (), 1), {"a": ["k"]}).derive(read("a"), read("a'"))
        self.assertTrue(case_taken(plan, ("pass", ("pass", same)), 1))
        self.assertTrue(case_taken(plan, ("pass", ("one", [row])), 1))
        self.assertFalse(case_taken(plan, ("pass", ("right", [row], same)), 1))
        self.assertFalse(case_taken(plan, ("pass", ("left", same)), 1))

    def test_rows_of_unlike_inputs_are_not_one(self):
        union = scan(A).equal("k", "x") + scan(B).equal("j", "y")
        plan = Plan(union.sort_by("k"), ["k", "x"])
        tie = [[("fact", 2)]]
        same = paper_of(plan).cases[3]
        self.assertEqual(same[0], "equal")
        self.assertTrue(case_taken(plan, ("ties", tie, same), 3))
        for wrong in (("one", []), ("one", [same[1]]), ("ties", tie, ("one", [])), ("ties", tie, ("one", tie))):
            self.assertFalse(case_taken(plan, wrong, 3), wrong)

    def test_unions(self):
        plan = Plan((scan(A).sort_by("k") + scan(B).sort_by("j")).group_by("k"), ["k"])
        paper = paper_of(plan)
        self.assertEqual([case[0] for case in paper.cases], ["by"] * 3)
        told = ([("self", read("a.k"))], [("self", read("b'.j"))])
        self.assertTrue(case_taken(plan, ("by", 0, [], told), 1))
        self.assertFalse(case_taken(plan, ("by", 0, [], told), 0))
        union = Plan(scan(A).equal("k", "x").sort_by("k").keep("k", "x") + scan(B).equal("j", "y").sort_by("j").keep("j", "y"))
        both = Plan(union.root.sort_by("k"), ["k", "x"])
        self.assertTrue(shows_right(both, paper_of(both)))
        same = ("equal", paper_of(both).cases[1][1])
        self.assertTrue(case_taken(both, same, 1))
        tie = [[("fact", 2)]]
        self.assertTrue(case_taken(both, ("ties", tie, ("pass", same)), 1))
        self.assertFalse(case_taken(both, ("ties", tie, ("pass", paper_of(both).cases[3])), 3))
        self.assertTrue(case_taken(both, ("ties", tie, paper_of(both).cases[3]), 3))


class Drawn(unittest.TestCase):
    def test_papers_with_something_put_for_another_thing(self):
        """Whatever stands in the lists, the looker answers, and takes just what shows the same."""
        taken = refused = 0
        for seed in range(260):
            dice = Dice(seed)
            plan = drawn_mended_plan(dice, 8)
            paper = paper_of(plan)
            if paper is None:
                continue
            self.assertTrue(shows_right(plan, paper), seed)
            whole = [[(line.number, line.choice, line.state, line.reasons) for line in paper], paper.cases]
            paths = [path for path in paths_of(whole) if len(path) > 1]
            for _ in range(12):
                path = dice.one_of(paths)
                old = at_path(whole, path)
                new = another(dice, old)
                lines, cases = with_at_path(whole, path, new)
                lines = [Line(*line) if is_line(line) else line for line in lines]
                if shows_right(plan, Paper(lines, cases)):
                    self.assertTrue(is_much_the_same(old, new), (seed, path, old, new))
                    taken += 1
                else:
                    refused += 1
        self.assertGreater(refused, 800)
        self.assertLess(taken, refused // 10)


def is_line(thing):
    return isinstance(thing, tuple) and len(thing) == 4 and isinstance(thing[3], (list, tuple))


def is_much_the_same(old, new):
    """A line's reasons in a tuple, which the line copies; or a derivation that states the same again."""
    if not isinstance(old, (list, tuple)) or not isinstance(new, (list, tuple)):
        return False
    return list(old) == list(new) or list(new) == list(old) + [old[0]]


def paths_of(thing, path=()):
    yield path
    if isinstance(thing, (list, tuple)):
        for at, part in enumerate(thing):
            yield from paths_of(part, path + (at,))


def at_path(thing, path):
    for at in path:
        thing = thing[at]
    return thing


def with_at_path(thing, path, new):
    if not path:
        return new
    parts = list(thing)
    parts[path[0]] = with_at_path(parts[path[0]], path[1:], new)
    return tuple(parts) if isinstance(thing, tuple) else parts


def another(dice, old):
    """Something else, much of it like what was there."""
    many = isinstance(old, (list, tuple))
    choices = [None, "x", True, False, -1, 10 ** 6, (), [], {}, ("fact", 0)]
    if isinstance(old, int):
        choices += [old + 1, old - 1]
    if many:
        choices += [tuple(old) if isinstance(old, list) else list(old), old[::-1], old[:-1], old[1:], [old], (old,)]
    if many and old:
        choices.append(old + type(old)([old[0]]))
    choices = [choice for choice in choices if type(choice) is not type(old) or choice != old]
    return dice.one_of(choices)
