"""Worlds: points 8 and 9."""

import unittest

from splitplans.tables import Table
from splitplans.worlds import World

from helpers import fault

HUGE = 10 ** 40


def tables():
    return [
        Table("t", ["k", "c"]),
        Table("s", ["x"], key=["x"], lies=("copied",)),
        Table("z", ["a", "b", "c"], key=["a", "c"], lies=("zero",)),
        Table("d", ["k", "c"], lies=("dealt", "r", ("c", "k"))),
    ]


def world(rows=None, workers=2, **more):
    return World(tables(), {} if rows is None else rows, workers=workers, **more)


class Rows(unittest.TestCase):
    def test_rows_of(self):
        rows = {"t": [(2, 1), (1, 5), (2, 1)], "s": [(-7,), (HUGE,)]}
        found = world(rows)
        self.assertEqual(found.rows_of("t"), [(2, 1), (1, 5), (2, 1)])
        self.assertEqual(found.rows_of("s"), [(-7,), (HUGE,)])
        self.assertEqual(found.rows_of("z"), [])
        self.assertEqual([table.name for table in found.tables], ["t", "s", "z", "d"])
        self.assertIsInstance(found.tables, list)

    def test_unknown_names(self):
        found = world({"t": [(1, 2)]})
        for name in ("u", "", "T", "tt"):
            self.assertEqual(fault(found.rows_of, name), ("UnknownName", name))
            self.assertEqual(fault(found.lying, name, 0), ("UnknownName", name))

    def test_tables(self):
        self.assertEqual(World([], {}, workers=1).tables, [])
        twice = [Table("t", ["k"]), Table("s", ["x"]), Table("t", ["c"])]
        self.assertEqual(fault(World, twice, {}, workers=1), ("InvalidWorld", "tables"))
        self.assertEqual(fault(World, [twice[0], twice[0]], {}, workers=1), ("InvalidWorld", "tables"))

    def test_wrong_rows(self):
        wrong = [
            {"u": []}, {"u": [(1,)]}, {"t": [(1,)]}, {"t": [(1, 2, 3)]}, {"t": [()]}, {"t": [[1, 2]]},
            {"t": [(1, 2), (1, "2")]}, {"t": [(1, None)]}, {"t": ["ab"]}, {"t": [None]}, {"t": [(1, (2,))]},
            {"s": [5]}, {"s": [(1, 2)]}, {"t": [(1, 2)], "z": [(1, 2)]}, {"t": [(True, 2)]},
        ]
        for rows in wrong:
            self.assertEqual(fault(world, rows), ("InvalidWorld", "rows"), rows)

    def test_keys(self):
        self.assertEqual(world({"z": [(1, 2, 3), (1, 2, 4), (2, 2, 3)]}).rows_of("z")[1], (1, 2, 4))
        self.assertEqual(world({"t": [(1, 2), (1, 2)]}).rows_of("t"), [(1, 2), (1, 2)])
        for rows in ([(1, 2, 3), (1, 2, 3)], [(1, 2, 3), (2, 2, 3), (1, 9, 3)]):
            self.assertEqual(fault(world, {"z": rows}), ("InvalidWorld", "key"))
        self.assertEqual(fault(world, {"s": [(1,), (2,), (1,)]}), ("InvalidWorld", "key"))

    def test_order_of_the_reasons(self):
        twice = tables() + [Table("t", ["k"])]
        wrong = {"t": [(1,)], "s": [(1,), (1,)]}
        more = {"workers": 0, "anyhow": {"u": []}}
        self.assertEqual(fault(World, twice, wrong, **more), ("InvalidWorld", "tables"))
        self.assertEqual(fault(World, tables(), wrong, **more), ("InvalidWorld", "rows"))
        self.assertEqual(fault(World, tables(), {"s": [(1,), (1,)], "d": [(1,)]}, **more), ("InvalidWorld", "rows"))
        self.assertEqual(fault(World, tables(), {"s": [(1,), (1,)]}, **more), ("InvalidWorld", "key"))
        self.assertEqual(fault(World, tables(), {}, **more), ("InvalidWorld", "workers"))
        self.assertEqual(fault(World, tables(), {}, workers=1, anyhow={"u": []}), ("InvalidWorld", "anyhow"))


class Workers(unittest.TestCase):
    def test_how_many(self):
        self.assertEqual(World.MOST_WORKERS, 16)
        for many in (1, 2, 15, 16):
            self.assertEqual(world(workers=many).workers, many)
        for many in (0, 17, -1, -HUGE, HUGE, None, "2"):
            self.assertEqual(fault(world, workers=many), ("InvalidWorld", "workers"))

    def test_three_ways_to_another_number(self):
        found = world({"t": [(1, 2)]}, workers=2)
        found.workers = 16
        self.assertEqual(found.workers, 16)
        self.assertIsNone(found.set_workers(1))
        self.assertEqual(found.workers, 1)
        other = found.with_workers(3)
        self.assertEqual((found.workers, other.workers), (1, 3))
        self.assertEqual(other.rows_of("t"), [(1, 2)])
        other.workers = 4
        self.assertEqual((found.workers, other.workers), (1, 4))

    def test_what_raises_changes_nothing(self):
        found = world({"t": [(1, 2), (3, 4)]}, workers=4, anyhow={"t": [1, 3]})

        def assign(many):
            found.workers = many
        for change in (assign, found.set_workers, found.with_workers):
            for many in (0, 17, -3):
                self.assertEqual(fault(change, many), ("InvalidWorld", "workers"))
            for many in (1, 2, 3):
                self.assertEqual(fault(change, many), ("InvalidWorld", "anyhow"))
            self.assertEqual(found.workers, 4)
            self.assertEqual(found.lying("t", 3), [(3, 4)])
        found.workers = 5
        self.assertEqual(found.workers, 5)

    def test_a_world_with_other_workers_means_the_same(self):
        found = world(
            {"t": [(1, 2), (3, 4)], "d": [(7, 9)]}, anyhow={"t": [1, 0]}, functions={"f": {(1,): 5}},
            tests={"p": [(1,)], "q": lambda a: a > 3}, rules={"r": lambda *values: 5})
        other = found.with_workers(4)
        self.assertEqual((other.apply("f", (1,)), other.apply("f", (2,))), (5, 0))
        self.assertEqual([other.holds("p", (1,)), other.holds("p", (2,)), other.holds("q", (4,))], [True, False, True])
        self.assertEqual((found.worker("r", (0, 0)), other.worker("r", (0, 0))), (1, 1))
        self.assertEqual((other.with_workers(3).worker("r", ()), other.lying("t", 1)), (2, [(1, 2)]))
        self.assertEqual((found.lying("d", 1), other.with_workers(6).lying("d", 5)), ([(7, 9)], [(7, 9)]))

    def test_anyhow(self):
        rows = {"t": [(1, 2), (3, 4)], "s": [(1,)]}
        wrong = [
            {"u": []}, {"u": [0]}, {"s": [0]}, {"z": []}, {"d": []}, {"t": []}, {"t": [0]}, {"t": [0, 1, 1]},
            {"t": [0, 2]}, {"t": [-1, 0]}, {"t": [0, HUGE]}, {"t": [0, 1], "s": [0]}, {"t": [0, None]},
        ]
        for anyhow in wrong:
            self.assertEqual(fault(world, rows, anyhow=anyhow), ("InvalidWorld", "anyhow"), anyhow)
        self.assertIsNone(fault(world, rows, anyhow={"t": [1, 1]}))
        self.assertIsNone(fault(world, {}, anyhow={"t": []}))
        self.assertEqual(fault(world, {}, anyhow={"t": [0]}), ("InvalidWorld", "anyhow"))


class Meanings(unittest.TestCase):
    def test_functions(self):
        found = world(functions={"f": {(1,): 5, (1, 2): -HUGE}, "g": lambda a, b: a * 10 + b, "h": {}})
        self.assertEqual([found.apply("f", (1,)), found.apply("f", (1, 2)), found.apply("f", (2,))], [5, -HUGE, 0])
        self.assertEqual(found.apply("g", (HUGE, -1)), HUGE * 10 - 1)
        self.assertEqual([found.apply("h", (1,)), found.apply("no", (1, 2, 3))], [0, 0])
        self.assertEqual(world().apply("f", (1,)), 0)

    def test_tests(self):
        found = world(tests={"p": [(1, 2), (-3, HUGE)], "q": lambda *values: sum(values), "n": []})
        self.assertIs(found.holds("p", (1, 2)), True)
        self.assertIs(found.holds("p", (-3, HUGE)), True)
        self.assertIs(found.holds("p", (2, 1)), False)
        self.assertIs(found.holds("p", (1,)), False)
        self.assertIs(found.holds("q", (1, 2)), True)
        self.assertIs(found.holds("q", (2, -2)), False)
        self.assertIs(found.holds("n", (1,)), False)
        self.assertIs(found.holds("no", (1,)), False)
        wide = world(tests={"w": lambda a, b, c, d, e, f, g, h: [a, h]})
        self.assertIs(wide.holds("w", (1, 2, 3, 4, 5, 6, 7, 8)), True)

    def test_rules(self):
        found = world(workers=5, rules={"r": {(1,): 12, (2,): -1, (3,): -HUGE - 2, (4,): 5}, "q": lambda a, b: a - b})
        self.assertEqual([found.worker("r", (at,)) for at in range(6)], [0, 2, 4, (-HUGE - 2) % 5, 0, 0])
        self.assertEqual([found.worker("q", (0, 3)), found.worker("q", (HUGE + 3, 0))], [2, 3])
        self.assertEqual(found.worker("no", (1,)), 0)
        found.workers = 3
        self.assertEqual([found.worker("r", (1,)), found.worker("q", (0, 1))], [0, 2])

    def test_names_are_looked_up_apart(self):
        found = world(functions={"a": {(1,): 7}}, tests={"a": [(2,)]}, rules={"a": {(1,): 1}})
        self.assertEqual((found.apply("a", (1,)), found.holds("a", (1,)), found.worker("a", (1,))), (7, False, 1))


class Lying(unittest.TestCase):
    def test_each_lie(self):
        rows = {"t": [(1, 1), (2, 2), (1, 1), (3, 3)], "s": [(4,), (3,)], "z": [(1, 1, 1), (0, 0, 0)],
                "d": [(5, 1), (6, 2), (5, 1), (7, 3)]}
        found = world(rows, workers=3, anyhow={"t": [2, 0, 1, 2]}, rules={"r": {(1, 5): 4, (3, 7): -1}})
        self.assertEqual([found.lying("t", at) for at in range(3)], [[(2, 2)], [(1, 1)], [(1, 1), (3, 3)]])
        self.assertEqual([found.lying("s", at) for at in range(3)], [[(4,), (3,)]] * 3)
        self.assertEqual([found.lying("z", at) for at in range(3)], [[(1, 1, 1), (0, 0, 0)], [], []])
        self.assertEqual([found.lying("d", at) for at in range(3)], [[(6, 2)], [(5, 1), (5, 1)], [(7, 3)]])

    def test_at_a_number_that_is_no_worker_nothing_lies(self):
        found = world({"t": [(1, 1)], "s": [(4,)], "z": [(1, 1, 1)], "d": [(5, 1)]}, workers=3)
        for name in ("t", "s", "z", "d"):
            self.assertEqual([found.lying(name, at) for at in (-1, 3, HUGE)], [[], [], []])

    def test_a_table_that_is_missing_from_anyhow(self):
        found = world({"t": [(1, 1), (2, 2)]}, workers=16)
        self.assertEqual([found.lying("t", at) for at in (0, 1, 15)], [[(1, 1), (2, 2)], [], []])

    def test_after_the_number_has_changed(self):
        found = world({"d": [(at, 0) for at in range(6)]}, workers=1, rules={"r": lambda c, k: k})
        self.assertEqual(len(found.lying("d", 0)), 6)
        found.workers = 4
        self.assertEqual([found.lying("d", at) for at in range(4)],
                         [[(0, 0), (4, 0)], [(1, 0), (5, 0)], [(2, 0)], [(3, 0)]])

    def test_each_row_of_a_table_that_is_not_copied_lies_once(self):
        rows = {"d": [(at % 7, at % 3) for at in range(50)]}
        found = world(rows, workers=7, rules={"r": lambda c, k: c * 11 - k * 5})
        lying = [row for at in range(7) for row in found.lying("d", at)]
        self.assertEqual(sorted(lying), sorted(rows["d"]))


class Copies(unittest.TestCase):
    def test_what_was_passed_may_be_changed(self):
        given, rows, anyhow = tables(), {"t": [(1, 2), (3, 4)], "s": [(9,)]}, {"t": [0, 1]}
        functions, tests, rules = {"f": {(1,): 5}}, {"p": [(1,)]}, {"r": {(1,): 1}}
        found = World(given, rows, workers=2, functions=functions, tests=tests, rules=rules, anyhow=anyhow)
        given.clear()
        rows["t"].append((5, 6))
        rows["s"] = []
        anyhow["t"][0] = 1
        functions["f"][(1,)] = 6
        functions["g"] = {(1,): 1}
        tests["p"].append((2,))
        tests["p"].remove((1,))
        rules["r"].clear()
        self.assertEqual([table.name for table in found.tables], ["t", "s", "z", "d"])
        self.assertEqual((found.rows_of("t"), found.rows_of("s")), ([(1, 2), (3, 4)], [(9,)]))
        self.assertEqual(found.lying("t", 0), [(1, 2)])
        self.assertEqual((found.apply("f", (1,)), found.apply("g", (1,))), (5, 0))
        self.assertEqual((found.holds("p", (1,)), found.holds("p", (2,)), found.worker("r", (1,))), (True, False, 1))
        other = found.with_workers(3)
        self.assertEqual((other.lying("t", 1), other.holds("p", (1,)), other.apply("f", (1,))), ([(3, 4)], True, 5))

    def test_what_was_returned_may_be_changed(self):
        found = world({"t": [(1, 2)], "s": [(9,)], "d": [(1, 1)]}, anyhow={"t": [1]})
        for name in ("t", "s", "z", "d"):
            found.rows_of(name).append((0, 0))
            for worker in (0, 1):
                found.lying(name, worker).append((7, 7))
        self.assertEqual((found.rows_of("t"), found.rows_of("z")), ([(1, 2)], []))
        self.assertEqual((found.lying("t", 1), found.lying("s", 0), found.lying("z", 0)), ([(1, 2)], [(9,)], []))
        self.assertEqual((found.lying("t", 0), found.lying("d", 0)), ([], [(1, 1)]))

    def test_nothing_is_modified(self):
        given, rows, anyhow = tables(), {"t": [(3, 2), (1, 4)]}, {"t": [1, 0]}
        functions, tests, rules = {"f": {(1,): 5}}, {"p": [(1,)]}, {"r": {(1,): 1}}
        found = World(given, rows, workers=2, functions=functions, tests=tests, rules=rules, anyhow=anyhow)
        values = [1]
        found.apply("f", values)
        found.worker("r", values)
        found.holds("p", values)
        found.set_workers(5)
        found.with_workers(3).set_workers(2)
        self.assertEqual((given, rows, anyhow), (tables(), {"t": [(3, 2), (1, 4)]}, {"t": [1, 0]}))
        self.assertEqual((functions, tests, rules), ({"f": {(1,): 5}}, {"p": [(1,)]}, {"r": {(1,): 1}}))
