"""Runs and verdicts: points 25, 29 and 30."""

import unittest

from splitplans.machine import First, Last, Machine
from splitplans.orders import broken_claim
from splitplans.papercheck import shows_right
from splitplans.papers import Paper
from splitplans.places import failures
from splitplans.plain import plain
from splitplans.plans import Plan, scan
from splitplans.runs import Run, Verdict, breaks, judge, run_of
from splitplans.tables import Table
from splitplans.worlds import World

from helpers import Dice
from planmaker import drawn_mended_plan, drawn_plan, drawn_world

A = Table("a", ["k", "x"])
B = Table("b", ["j", "y"])
C = Table("c", ["h", "z"], lies=("copied",))
DEALT_A = A.with_lie(("dealt", "r", ("k",)))
DEALT_B = B.with_lie(("dealt", "r", ("y",)))
ZERO_A, ZERO_B, ZERO_C = (table.with_lie(("zero",)) for table in (A, B, C))

UNION = scan(DEALT_A).keep("k") + scan(ZERO_B).keep("j")

# Plans by the kind, rank and place of their first failure.
FAILING = {
    ("lost", 1, "join"): scan(DEALT_A).join_with(scan(DEALT_B), [("k", "j")]).gather(),
    ("lost", 1, "semi"): scan(A).semi_with(scan(DEALT_B), [("k", "j")]).gather(),
    ("lost", 1, "own"): scan(A).own_by("r", "k").gather(),
    ("lost", 1, "root"): scan(A),
    ("lost", 1, "split at the root"): scan(ZERO_A).split_by("r", "k"),
    ("lost", 1, "zero meets a rule"): scan(ZERO_A).join_with(scan(DEALT_B), [("k", "y")]).gather(),
    ("lost", 1, "a rule meets zero"): scan(DEALT_A).join_with(scan(ZERO_B), [("k", "y")]).gather(),
    ("lost", 1, "below a group"): scan(A).join_with(scan(DEALT_B), [("k", "j")]).gather().group_by(n="count"),
    ("lost", 1, "in one choice"): UNION,
    ("copies", 1, "gather"): scan(C).gather(),
    ("copies", 1, "split"): scan(C).split_by("r", "h").gather(),
    ("copies", 1, "merge"): scan(C).sort_by("h").merge_by("h"),
    ("copies", 1, "broadcast"): scan(ZERO_A).broadcast().broadcast(),
    ("copies", 1, "parts"): scan(C).group_by("h", n="count").gather().group_by("h", m=("sum", "n")),
    ("copies", 1, "sum"): scan(C).gather().group_by(s=("sum", "z")),
    ("copies", 1, "tested"): scan(C).gather().group_by("h", n="count").where("p", "n", "h").keep("h"),
    ("copies", 1, "with wants"): scan(C).anti_with(scan(DEALT_A), [("h", "k")]).gather(),
    ("lost", 2, "join"): scan(ZERO_C).anti_with(scan(DEALT_A).join_with(scan(DEALT_B), [("k", "j")]).gather(),
                                                [("h", "k")]),
    ("lost", 2, "own"): scan(ZERO_C).anti_with(scan(A).own_by("r", "k").gather(), [("h", "k")]),
    ("junk", 2, "anti"): scan(ZERO_C).anti_with(scan(A), [("h", "k")]),
    ("junk", 2, "join"): scan(C).anti_with(scan(DEALT_A), [("h", "x")]).join_with(scan(ZERO_B), [("h", "j")]),
    ("junk", 2, "own"): scan(C).anti_with(scan(DEALT_A), [("h", "k")]).own_by("q", "h").gather(),
    ("junk", 2, "loose exchange"): scan(C).anti_with(scan(DEALT_A), [("h", "k")]).gather().distinct(),
    ("junk", 2, "loose split"): scan(C).anti_with(scan(ZERO_A), [("h", "k")]).split_by("r", "h").group_by("h").gather(),
    ("junk", 2, "root"): scan(C).anti_with(scan(A), [("h", "k")]),
    ("junk", 2, "tested above"): scan(C).group_by("h", n="count").anti_with(scan(A), [("h", "k")]).where("p", "n", "h"),
    ("apart", 3, "group"): scan(A).group_by("k", n="count").gather(),
    ("apart", 3, "distinct"): scan(A).distinct().gather(),
    ("apart", 3, "semi"): scan(C).semi_with(scan(A), [("h", "k")]).gather(),
    ("apart", 3, "sum"): scan(DEALT_A).group_by("x", s=("sum", "k")).gather(),
    ("apart", 3, "one group"): scan(A).group_by(s=("sum", "k")).gather(),
    ("apart", 3, "union"): (scan(DEALT_A).keep("k", "x") + scan(B)).distinct().gather(),
    ("apart", 3, "tested"): scan(A).group_by("k", n="count").gather().where("p", "k", "n").keep("k"),
    ("apart", 3, "counted above"): scan(A).group_by("k").gather().group_by(n="count"),
    ("apart", 3, "key of another column"): scan(A.with_key("k")).group_by("x", n="count").gather(),
}

# Plans with rows that lie apart, in which sums and counts of rows that are too many, and of others
# that a test of a measure lets through or not, could make up for each other.
MADE_UP = ("""table a a1 a2 a3 key a3 anyhow
table b b1 b2 b3 key b2 copied
table c c1 c2 c3 copied
1 scan a
2 scan b
3 join 1 2 a1 b1
4 scan c
5 join 3 4 a1 c3
6 compute 5 n0 f b3 c2
7 compute 6 n1 f n0
8 compute 7 n2 f c2
9 equal 8 n2 c1
10 group 9 b1 n1 with m sum n0
11 gather 10
12 keep 11 b1 n1 m
13 where 12 p b1 n1 m
14 group 13 with z count
15 gather 14
answer""", """table a a1 a2 a3 anyhow
table b b1 b2 b3 key b3 copied
table c c1 c2 c3 copied
table d d1 d2 d3 copied
1 scan a
2 scan b
3 join 1 2 a2 b1
4 scan c
5 join 3 4 a1 c3
6 scan d
7 join 5 6 c3 d2
8 compute 7 n0 f d1 c1
9 group 8 n0 a1 with m sum n0
10 gather 9
11 keep 10 m
12 where 11 p m
13 group 12 with z count
answer""", """table a a1 a2 a3 anyhow
table b b1 b2 b3 copied
1 scan a
2 scan b
3 join 1 2 a1 b3
4 compute 3 n0 f b1 a3
5 compute 4 n1 f n0 n0
6 compute 5 n2 f n1
7 group 6 a2 a1 n0 with m sum n0
8 gather 7
9 keep 8 a2 m
10 where 9 p a2 m
11 group 10 with z sum m
answer""", """table a a1 a2 a3 anyhow
table b b1 b2 b3 copied
table c c1 c2 c3 copied
1 scan a
2 scan b
3 join 1 2 a3 b2
4 scan c
5 join 3 4 b2 c3
6 compute 5 n0 f a1 c2
7 compute 6 n1 f a1 n0
8 group 7 b2 n1 with m sum n0
9 gather 8
10 keep 9 b2 m
11 where 10 p b2 m
12 group 11 with z sum m
13 gather 12
answer""", """table a a1 a2 a3 anyhow
table b b1 b2 b3 key b1 copied
table c c1 c2 c3 copied
1 scan a
2 scan b
3 join 1 2 a1 b3
4 scan c
5 join 3 4 a1 c3
6 compute 5 n0 f c1 b1
7 group 6 b3 n0 with m count
8 gather 7
9 keep 8 m
10 where 9 p m
11 group 10 with z sum m
12 gather 11
answer""", """table a a1 a2 a3 anyhow
table b b1 b2 b3 copied
table c c1 c2 c3 copied
1 scan a
2 scan b
3 join 1 2 a1 b1
4 scan c
5 join 3 4 a2 c2
6 compute 5 n0 f a3 c3
7 equal 6 c1 a2
8 group 7 n0 a2 with m sum c2 q count
9 gather 8
10 keep 9 m
11 where 10 p m
12 group 11 with z sum m
answer""", """table a a1 a2 a3 anyhow
table b b1 b2 b3 copied
table c c1 c2 c3 copied
1 scan a
2 scan b
3 join 1 2 a1 b2
4 scan c
5 join 3 4 b3 c3
6 compute 5 n0 f a3
7 compute 6 n1 f c3 n0
8 group 7 n1 b2 c2 with m count q count
9 gather 8
10 keep 9 c2 m
11 where 10 p c2 m
12 group 11 with z sum m
answer""")

# Plans without failure of which a claim does not hold, with their orders.
BROKEN = {
    "scan": (scan(ZERO_A), ["k"]),
    "copied": (scan(C), ["h", "z"]),
    "another column": (scan(ZERO_A).sort_by("x"), ["k"]),
    "the second column": (scan(ZERO_A).sort_by("k"), ["k", "x"]),
    "gather": (scan(A).sort_by("k").gather(), ["k"]),
    "gather to a split": (scan(ZERO_A).sort_by("k").split_by("r", "x").gather(), ["k"]),
    "broadcast": (scan(A).sort_by("k").broadcast(), ["k"]),
    "two splits": (scan(A).sort_by("k").split_by("r", "x").sort_by("x").split_by("q", "x").gather(), ["k"]),
    "merge by another": (scan(A).sort_by("k", "x").merge_by("k"), ["x"]),
    "merge leaves ties": (scan(A).sort_by("k", "x").merge_by("k"), ["k", "x"]),
    "merge of a zero": ((scan(ZERO_A) + scan(B.with_lie(("dealt", "r", ("j",))))).sort_by("k", "x").merge_by("k"), ["k", "x"]),
    "merge to a zero": ((scan(DEALT_A) + scan(ZERO_B)).sort_by("k", "x").merge_by("k"), ["k", "x"]),
    "gather of a zero": ((scan(ZERO_A).sort_by("x") + scan(B.with_lie(("dealt", "r", ("j",)))).sort_by("y")).gather()
                         .sort_by("k"), ["k", "x"]),
    "gather to a zero": ((scan(DEALT_A).sort_by("x") + scan(ZERO_B).sort_by("y")).gather().sort_by("k"), ["k", "x"]),
    "gather behind a split": ((scan(A).split_by("r", "k").sort_by("x") + scan(ZERO_B).sort_by("y")).gather().sort_by("k"),
                              ["k", "x"]),
    "a column that tells in one choice": ((scan(ZERO_A).equal("k", "x") + scan(ZERO_B)).sort_by("x"), ["k"]),
    "group": (scan(ZERO_A).group_by("x", "k"), ["k"]),
    "distinct": (scan(ZERO_A).distinct(), ["x"]),
    "union": (scan(ZERO_A).sort_by("k") + scan(ZERO_B).sort_by("j"), ["k"]),
    "union turned": ((scan(ZERO_A) + scan(ZERO_B)).keep("x", "k") + scan(ZERO_C), ["x"]),
    "join": (scan(ZERO_A).sort_by("k").join_with(scan(ZERO_B).sort_by("y"), [("k", "j")]), ["k", "y"]),
    "join of one row": (scan(ZERO_A.with_key("k")).sort_by("k").join_with(scan(ZERO_B), [("k", "j")]), ["k", "y"]),
    "join of the right": (scan(ZERO_A).join_with(scan(ZERO_B).sort_by("y"), [("k", "j")]), ["y"]),
    "computed": (scan(ZERO_A).compute("n", "f", "k").sort_by("n"), ["k"]),
    "computed by the sorted one": (scan(ZERO_A).compute("n", "f", "k").sort_by("k"), ["n"]),
    "where": (scan(ZERO_A).where("p", "x"), ["k"]),
    "tested measure": (scan(ZERO_A).group_by("x", "k", n="count").where("p", "n", "x", "k"), ["k"]),
    "semi": (scan(ZERO_A).semi_with(scan(ZERO_B), [("k", "j")]), ["x"]),
    "anti": (scan(ZERO_A).anti_with(scan(ZERO_B), [("k", "j")]), ["x"]),
    "equal": (scan(ZERO_A).equal("k", "x"), ["x"]),
}


def as_told(test, plan, run, most):
    """Checks that the run breaks the plan and has a world as it is told."""
    test.assertTrue(breaks(plan, run), str(plan))
    test.assertEqual(run.world.workers, 2)
    test.assertEqual(sorted(map(str, run.world.tables)), sorted(map(str, plan.tables)))
    for table in plan.tables:
        rows = run.world.rows_of(table.name)
        test.assertLessEqual(len(rows), most)
        places = [table.columns.index(column) for column in table.key]
        keyed = {tuple(row[place] for place in places) for row in rows}
        if table.key:
            test.assertEqual(len(keyed), len(rows))
    machine = Machine(plan, run.world)
    for move in run.moves:
        machine.move(*move)
    test.assertTrue(machine.ended)
    return machine.answer()


class Failures(unittest.TestCase):
    def test_each_kind(self):
        for (kind, rank, what), root in FAILING.items():
            plan = Plan(root)
            first = failures(plan)[0]
            self.assertEqual((first.kind, first.rank), (kind, rank), what)
            answer = as_told(self, plan, run_of(plan), 2 if rank == 3 else 1)
            self.assertNotEqual(sorted(answer), sorted(plain(plan, run_of(plan).world)), what)

    def test_whatever_the_moves_are(self):
        """Where rows are wrong, each run in that world ends otherwise."""
        for root in FAILING.values():
            plan = Plan(root)
            world = run_of(plan).world
            for chooser in (First(), Last()):
                self.assertTrue(breaks(plan, Run(world, Machine(plan, world).play(chooser))))

    def test_rows_that_could_make_up_for_each_other(self):
        for text in MADE_UP:
            plan = Plan.read(text)
            self.assertEqual(failures(plan)[0].kind, "apart")
            as_told(self, plan, run_of(plan), 2)

    def test_tests_of_measures_one_above_the_other(self):
        counted = scan(A).group_by("k", "x", n="count").gather().where("p", "k", "x", "n").keep("k", "n")
        twice = counted.group_by("k", m=("sum", "n")).where("q", "m", "k")
        everywhere = scan(A).group_by("k", n="count").gather().broadcast().where("p", "k", "n").keep("k")
        semi = scan(C).semi_with(scan(A), [("h", "k")]).gather().group_by("h", n="count").where("p", "n", "h").keep("h")
        tested = semi.where("q", "h").compute("m", "f", "h").where("s", "m")
        union = (scan(A) + scan(B)).group_by("k", n="count").gather().where("p", "k", "n").group_by(m="count")
        for root in (counted, twice, twice.keep("k"), everywhere, semi, tested, union, union.where("q", "m")):
            plan = Plan(root)
            self.assertEqual(failures(plan)[0].kind, "apart")
            as_told(self, plan, run_of(plan), 2)

    def test_a_failure_before_a_claim(self):
        plan = Plan(scan(A), ["k"])
        as_told(self, plan, run_of(plan), 1)
        apart = Plan(scan(A).distinct().gather(), ["k"])
        as_told(self, apart, run_of(apart), 2)


class BrokenClaims(unittest.TestCase):
    def test_each_kind(self):
        for what, (root, order) in BROKEN.items():
            plan = Plan(root, order)
            self.assertEqual(failures(plan), [], what)
            self.assertNotEqual(broken_claim(plan), None, what)
            run = run_of(plan)
            answer = as_told(self, plan, run, 2)
            self.assertEqual(sorted(answer), sorted(plain(plan, run.world)), what)
            places = [plan.root.columns.index(column) for column in order]
            told = [[row[place] for place in places] for row in answer]
            self.assertNotEqual(told, sorted(told), what)
            self.assertFalse(breaks(Plan(root), run), what)

    def test_each_claim_of_a_plan_alone(self):
        """Whichever claim is broken first: the columns ahead of it are alike there."""
        root = scan(ZERO_A).sort_by("k").join_with(scan(ZERO_B), [("k", "j")])
        self.assertEqual(broken_claim(Plan(root, ["k", "j", "y"])), ((), (), 2))
        plan = Plan(root, ["k", "j", "y"])
        answer = as_told(self, plan, run_of(plan), 2)
        self.assertEqual(len({row[0] for row in answer}), 1)


class RightPlans(unittest.TestCase):
    def test_no_run(self):
        for root, order in ((scan(ZERO_A), []), (scan(A).gather(), []), (scan(ZERO_A).sort_by("k"), ["k"]),
                            (scan(C), []), (scan(A).sort_by("k").merge_by("k"), ["k"])):
            plan = Plan(root, order)
            self.assertEqual(run_of(plan), None)
            verdict = judge(plan)
            self.assertEqual(verdict.run, None)
            self.assertTrue(shows_right(plan, verdict.paper))

    def test_verdicts(self):
        verdict = judge(Plan(scan(A)))
        self.assertEqual(verdict.paper, None)
        self.assertTrue(breaks(Plan(scan(A)), verdict.run))
        self.assertIsInstance(verdict, Verdict)
        self.assertIsInstance(judge(Plan(scan(C))).paper, Paper)
        by_claim = Plan(scan(A).gather(), ["k"])
        self.assertEqual((judge(by_claim).paper, breaks(by_claim, judge(by_claim).run)), (None, True))


class Player(unittest.TestCase):
    def setUp(self):
        self.plan = Plan(scan(A).sort_by("k").gather(), ["k"])
        self.world = World([A], {"a": [(2, 0), (1, 0)]}, workers=2, anyhow={"a": [1, 0]})

    def test_ends(self):
        self.assertTrue(breaks(self.plan, Run(self.world, [(3, 0, 1), (3, 0, 0)])))
        self.assertFalse(breaks(self.plan, Run(self.world, [(3, 0, 0), (3, 0, 1)])))
        self.assertFalse(breaks(Plan(self.plan.root), Run(self.world, [(3, 0, 1), (3, 0, 0)])))
        self.assertFalse(breaks(Plan(self.plan.root, ["x"]), Run(self.world, [(3, 0, 1), (3, 0, 0)])))

    def test_rows_as_a_bag(self):
        copies = Plan(scan(C).gather())
        world = World([C], {"c": [(1, 1)]}, workers=2)
        self.assertTrue(breaks(copies, Run(world, [(2, 0, 0), (2, 0, 1)])))
        alone = World([C], {"c": [(1, 1)]}, workers=1)
        self.assertFalse(breaks(copies, Run(alone, [(2, 0, 0)])))

    def test_moves_that_do_not_lead_to_the_end(self):
        good = [(3, 0, 1), (3, 0, 0)]
        for moves in ([], good[:1], good + good[:1], good * 2, [good[0], good[0]], good + [(3, 0, 1)], [(2, 0, 1), good[1]],
                      [(9, 0, 0)] + good, [(3, 1, 1)] + good, good[:1] + [(3, 0, 7)], [(-1, -1, -1)] + good, [(0, 0, 0)]):
            self.assertFalse(breaks(self.plan, Run(self.world, moves)), moves)
        for moves in (good[::-1], [good[1], good[0]]):
            self.assertFalse(breaks(self.plan, Run(self.world, moves)))

    def test_runs_with_a_move_changed(self):
        for root in (FAILING["copies", 1, "gather"], FAILING["apart", 3, "group"], FAILING["copies", 1, "parts"]):
            plan = Plan(root)
            run = run_of(plan)
            self.assertTrue(run.moves)
            for at in range(len(run.moves)):
                before, move, behind = run.moves[:at], run.moves[at], run.moves[at + 1:]
                self.assertFalse(breaks(plan, Run(run.world, before + behind)))
                self.assertFalse(breaks(plan, Run(run.world, before + [(1, 0, 0)] + behind)))
            self.assertFalse(breaks(plan, Run(run.world, run.moves + run.moves)))
            self.assertFalse(breaks(plan, Run(run.world, [])))

    def test_no_moves_at_all(self):
        plan = Plan(scan(A))
        lost = World([A], {"a": [(1, 1)]}, workers=2, anyhow={"a": [1]})
        self.assertTrue(breaks(plan, Run(lost, [])))
        self.assertFalse(breaks(plan, Run(World([A], {"a": [(1, 1)]}, workers=2), [])))
        self.assertFalse(breaks(plan, Run(World([A], {}, workers=2), [])))

    def test_worlds_of_other_tables(self):
        moves = [(3, 0, 1), (3, 0, 0)]
        rows = {"a": [(2, 0), (1, 0)]}
        places = {"a": [1, 0]}
        more = World([B, A], rows, workers=2, anyhow=places)
        self.assertTrue(breaks(self.plan, Run(more, moves)))
        for tables in ([], [B]):
            self.assertFalse(breaks(self.plan, Run(World(tables, {}, workers=2), moves)))
        keyed = World([A.with_key("k")], rows, workers=2, anyhow=places)
        self.assertFalse(breaks(self.plan, Run(keyed, moves)))
        other = World([A.with_lie(("zero",))], rows, workers=2)
        self.assertFalse(breaks(self.plan, Run(other, moves)))
        self.assertFalse(breaks(self.plan, Run(other, [])))

    def test_what_is_passed_is_copied(self):
        moves = [(3, 0, 1), (3, 0, 0)]
        rows = {"a": [(2, 0), (1, 0)]}
        places = {"a": [1, 0]}
        world = World([A], rows, workers=2, anyhow=places)
        run = Run(world, moves)
        moves.clear()
        rows["a"].clear()
        places["a"].clear()
        world.workers = 5
        self.assertEqual(run.world.workers, 2)
        self.assertEqual(run.moves, [(3, 0, 1), (3, 0, 0)])
        self.assertTrue(breaks(self.plan, run))
        self.assertTrue(breaks(self.plan, run))

    def test_two_runs_share_nothing(self):
        plan = Plan(FAILING["apart", 3, "group"])
        first = run_of(plan)
        first.moves.clear()
        first.world.workers = 7
        first.world.tables.clear()
        self.assertTrue(breaks(plan, run_of(plan)))


class Drawn(unittest.TestCase):
    def test_a_paper_or_a_run(self):
        kinds = {}
        for seed in range(700):
            dice = Dice(seed)
            plan = drawn_mended_plan(dice, 10) if seed % 4 else drawn_plan(dice, 12)
            verdict = judge(plan)
            found = failures(plan)
            if verdict.paper is not None:
                self.assertEqual((verdict.run, found), (None, []))
                self.assertTrue(shows_right(plan, verdict.paper), seed)
                kinds["right"] = kinds.get("right", 0) + 1
            else:
                as_told(self, plan, verdict.run, 1 if found and found[0].rank < 3 else 2)
                kind = (found[0].kind, found[0].rank) if found else "claim"
                kinds[kind] = kinds.get(kind, 0) + 1
        for kind in ("right", "claim", ("lost", 1), ("copies", 1), ("junk", 2), ("apart", 3)):
            self.assertGreater(kinds.get(kind, 0), 5, kind)

    def test_right_plans_end_in_order(self):
        """In worlds that look drawn no run breaks a plan that has a paper."""
        orders = 0
        for seed in range(260):
            dice = Dice(seed)
            plan = drawn_mended_plan(dice, 9)
            if judge(plan).paper is None:
                continue
            orders += bool(plan.order)
            for _ in range(6):
                world = drawn_world(dice, plan, 1 + dice.below(3), 4, 2 + dice.below(2))
                for chooser in (First(), Last()):
                    moves = Machine(plan, world).play(chooser)
                    self.assertFalse(breaks(plan, Run(world, moves)), seed)
        self.assertGreater(orders, 10)
