"""Plain answers: point 19, and what steps return in point 10."""

import unittest

from splitplans.plain import plain, plain_rows
from splitplans.plans import Plan, scan
from splitplans.tables import Table
from splitplans.worlds import World

from helpers import fault

HUGE = 10 ** 40
T = Table("t", ["k", "c", "x"])
S = Table("s", ["y", "z"], lies=("copied",))
ROWS = [(2, 7, 1), (1, -5, 1), (2, 7, 1), (-3, 7, 0), (1, HUGE, 4), (2, 0, -HUGE)]
MATES = [(2, 1), (1, 1), (2, 2), (2, 1), (9, 9)]


def world(rows=None, mates=None, **more):
    tables = {"t": ROWS if rows is None else rows, "s": MATES if mates is None else mates}
    return World([T, S], tables, workers=3, **more)


def answer(root, rows=None, mates=None, **more):
    return plain(Plan(root), world(rows, mates, **more))


class Steps(unittest.TestCase):
    def test_scan(self):
        self.assertEqual(answer(scan(T)), ROWS)
        self.assertEqual(answer(scan(S)), MATES)
        self.assertEqual(answer(scan(T), rows=[]), [])

    def test_every_lie(self):
        for lies in (("copied",), ("zero",), ("anyhow",), ("dealt", "r", ("c", "k"))):
            table = T.with_lie(lies)
            found = World([table], {"t": ROWS}, workers=5, rules={"r": lambda c, k: c + k})
            self.assertEqual(plain(Plan(scan(table)), found), ROWS)

    def test_where(self):
        self.assertEqual(answer(scan(T).where("p", "c", "k"), tests={"p": [(7, 2), (0, 2)]}), [ROWS[0], ROWS[2], ROWS[5]])
        self.assertEqual(answer(scan(T).where("p", "k", "k"), tests={"p": lambda a, b: a == b == 1}), [ROWS[1], ROWS[4]])
        self.assertEqual(answer(scan(T).where("p", "k")), [])

    def test_where_of_measures(self):
        root = scan(T).group_by("k", n="count").where("p", "n", "k")
        self.assertEqual(answer(root, tests={"p": [(3, 2), (1, -3), (2, 2)]}), [(-3, 1), (2, 3)])

    def test_compute(self):
        found = answer(scan(T).compute("n", "f", "x", "k"), functions={"f": {(1, 2): 9, (0, -3): -HUGE}})
        self.assertEqual(found, [row + (more,) for row, more in zip(ROWS, (9, 0, 9, -HUGE, 0, 0))])
        twice = scan(T).compute("n", "f", "k").compute("o", "f", "n")
        self.assertEqual([row[3:] for row in answer(twice, functions={"f": lambda a: a * 3})],
                         [(3 * row[0], 9 * row[0]) for row in ROWS])

    def test_equal(self):
        self.assertEqual(answer(scan(T).equal("k", "x"), rows=[(1, 2, 1), (1, 1, 2), (HUGE, 0, HUGE)]),
                         [(1, 2, 1), (HUGE, 0, HUGE)])

    def test_keep(self):
        self.assertEqual(answer(scan(T).keep("x", "k")), [(row[2], row[0]) for row in ROWS])

    def test_distinct(self):
        self.assertEqual(answer(scan(T).distinct()), [ROWS[3], ROWS[1], ROWS[4], ROWS[5], ROWS[0]])
        self.assertEqual(answer(scan(T).keep("c").distinct()), [(-5,), (0,), (7,), (HUGE,)])
        self.assertEqual(answer(scan(T).distinct(), rows=[]), [])

    def test_group(self):
        found = answer(scan(T).group_by("k", n="count", s=("sum", "c"), m=("sum", "x")))
        self.assertEqual(found, [(-3, 1, 7, 0), (1, 2, HUGE - 5, 5), (2, 3, 14, 2 - HUGE)])
        self.assertEqual(answer(scan(T).group_by("c", "k")), [(-5, 1), (0, 2), (7, -3), (7, 2), (HUGE, 1)])
        self.assertEqual(answer(scan(T).group_by("k", s=("sum", "k"))), [(-3, -3), (1, 2), (2, 6)])

    def test_group_without_key_columns(self):
        step = scan(T).group_by(n="count", s=("sum", "k"))
        self.assertEqual(answer(step), [(6, 5)])
        self.assertEqual(answer(step, rows=[]), [])
        self.assertEqual(answer(step, rows=[(0, 0, 0)]), [(1, 0)])
        self.assertEqual(answer(step.group_by(m=("sum", "n")), rows=[]), [])

    def test_group_of_measures(self):
        step = scan(T).group_by("k", "x", n="count").group_by("k", m=("sum", "n"), o="count")
        self.assertEqual(answer(step), [(-3, 1, 1), (1, 2, 2), (2, 3, 2)])

    def test_sort(self):
        found = answer(scan(T).sort_by("k"))
        self.assertEqual(found, [ROWS[3], ROWS[1], ROWS[4], ROWS[0], ROWS[2], ROWS[5]])
        found = answer(scan(T).sort_by("x", "c"))
        self.assertEqual(found, [ROWS[5], ROWS[3], ROWS[1], ROWS[0], ROWS[2], ROWS[4]])

    def test_sort_keeps_the_order_of_rows_alike(self):
        rows = [(1, 5, 9), (0, 4, 8), (1, 3, 7), (0, 9, 9), (1, 1, 1)]
        self.assertEqual(answer(scan(T).sort_by("k"), rows=rows), [rows[1], rows[3], rows[0], rows[2], rows[4]])

    def test_own_and_exchanges(self):
        rules = {"r": lambda a: a}
        for over in (scan(T).own_by("r", "k"), scan(T).split_by("r", "k"), scan(T).broadcast(), scan(T).gather()):
            self.assertEqual(answer(over, rules=rules), ROWS)
        merged = scan(T).sort_by("k").merge_by("k")
        self.assertEqual(answer(merged), answer(scan(T).sort_by("k")))

    def test_join(self):
        found = answer(scan(T).join_with(scan(S), [("k", "y")]))
        wanted = [row + mate for row in ROWS for mate in MATES if row[0] == mate[0]]
        self.assertEqual(found, wanted)
        self.assertEqual(found[:3], [(2, 7, 1, 2, 1), (2, 7, 1, 2, 2), (2, 7, 1, 2, 1)])
        self.assertEqual(answer(scan(S).join_with(scan(T), [("y", "k")])),
                         [mate + row for mate in MATES for row in ROWS if row[0] == mate[0]])

    def test_several_pairs(self):
        two = [("k", "y"), ("x", "z")]
        self.assertEqual(answer(scan(T).join_with(scan(S), two)),
                         [row + mate for row in ROWS for mate in MATES if (row[0], row[2]) == mate])
        self.assertEqual(answer(scan(T).semi_with(scan(S), two)), ROWS[:3])
        self.assertEqual(answer(scan(T).anti_with(scan(S), two)), ROWS[3:])
        three = [("k", "y"), ("x", "z"), ("x", "y")]
        self.assertEqual(answer(scan(T).semi_with(scan(S), three)), [ROWS[1]])
        self.assertEqual(answer(scan(T).join_with(scan(S), three)), [ROWS[1] + (1, 1)])

    def test_semi_and_anti(self):
        on = [("k", "y")]
        self.assertEqual(answer(scan(T).semi_with(scan(S), on)), [row for row in ROWS if row[0] != -3])
        self.assertEqual(answer(scan(T).anti_with(scan(S), on)), [ROWS[3]])
        self.assertEqual(answer(scan(T).semi_with(scan(S), on), mates=[]), [])
        self.assertEqual(answer(scan(T).anti_with(scan(S), on), mates=[]), ROWS)
        self.assertEqual(answer(scan(T).anti_with(scan(S), on), rows=[]), [])
        self.assertEqual(answer(scan(T).join_with(scan(S), on), mates=[]), [])

    def test_union(self):
        self.assertEqual(answer(scan(T).keep("c", "k") + scan(S)), [(row[1], row[0]) for row in ROWS] + MATES)
        self.assertEqual(answer(scan(S) + scan(T).keep("c", "k")), MATES + [(row[1], row[0]) for row in ROWS])


class PlainRows(unittest.TestCase):
    def test_each_step(self):
        plan = Plan(scan(T).keep("k").distinct().join_with(scan(S).gather(), [("k", "y")]))
        self.assertEqual(plain_rows(plan, world(), 1), ROWS)
        self.assertEqual(plain_rows(plan, world(), 2), [(row[0],) for row in ROWS])
        self.assertEqual(plain_rows(plan, world(), 3), [(-3,), (1,), (2,)])
        self.assertEqual(plain_rows(plan, world(), 4), MATES)
        self.assertEqual(plain_rows(plan, world(), 5), MATES)
        self.assertEqual(plain_rows(plan, world(), 6), plain(plan, world()))
        self.assertEqual(plain(plan, world()), [(1, 1, 1), (2, 2, 1), (2, 2, 2), (2, 2, 1)])

    def test_what_was_returned_may_be_changed(self):
        plan, found = Plan(scan(T).gather()), world()
        plain(plan, found).clear()
        plain_rows(plan, found, 1).append((0, 0, 0))
        self.assertEqual((plain(plan, found), plain_rows(plan, found, 1)), (ROWS, ROWS))
        self.assertEqual(found.rows_of("t"), ROWS)

    def test_the_number_of_workers_does_not_matter(self):
        plan = Plan(scan(T).own_by("r", "k").split_by("r", "c"))
        for workers in (1, 2, 16):
            self.assertEqual(plain(plan, world(rules={"r": lambda a: a}).with_workers(workers)), ROWS)


class TablesOfTheWorld(unittest.TestCase):
    def test_tables_that_are_not_equal(self):
        plan = Plan(scan(T).semi_with(scan(S), [("k", "y")]))
        others = [
            [T], [S], [], [T, S.with_lie(("zero",))], [T.with_key("k"), S], [Table("t", ["k", "c"]), S],
            [Table("t", ["k", "x", "c"]), S], [T, Table("s", ["y"], lies=("copied",))],
        ]
        for tables in others:
            for call in (plain, lambda one, other: plain_rows(one, other, 1)):
                self.assertEqual(fault(call, plan, World(tables, {}, workers=1)), ("InvalidWorld", "tables"))

    def test_tables_that_are(self):
        plan = Plan(scan(T))
        same = Table("t", ["k", "c", "x"])
        for tables in ([same], [Table("u", ["k"]), same], [S, T]):
            self.assertEqual(plain(plan, World(tables, {"t": ROWS}, workers=2)), ROWS)
