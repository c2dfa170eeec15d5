"""Tables: point 7, and equal tables of point 18."""

import unittest

from splitplans.errors import InputError, InvalidTable
from splitplans.tables import Table

from helpers import fault

EIGHT = ["a", "b", "c", "d", "e", "f", "g", "h"]
GOOD_LIES = [
    (("copied",), "copied"),
    (("anyhow",), "anyhow"),
    (("zero",), "zero"),
    (("dealt", "r", ("a",)), "dealt r a"),
    (("dealt", "r", ("c", "a")), "dealt r c a"),
    (("dealt", "a", ("a", "b", "c")), "dealt a a b c"),
]
WRONG_LIES = [
    None, "copied", "anyhow", "", (), 0, 7, True, ["copied"], ["anyhow"], ("copied", "copied"), ("copied", None),
    ("every",), ("Zero",), ("zero ",), (None,), (0,), ("",), ("dealt",), ("dealt", "r"), ("dealt", "r", ()),
    ("dealt", "r", ("a",), ()), ("dealt", "r", ["a"]), ["dealt", "r", ("a",)], ("dealt", "r", "a"),
    ("dealt", "r", ("z",)), ("dealt", "r", ("a", "a")), ("dealt", "r", ("a", "b", "c", "d")),
    ("dealt", "R", ("a",)), ("dealt", "", ("a",)), ("dealt", "key", ("a",)), ("dealt", "self", ("a",)),
    ("dealt", None, ("a",)), ("dealt", 5, ("a",)), ("dealt", ("r",), ("a",)), ("dealt", "rrrrrrrrr", ("a",)),
    ("dealt", "r", (None,)), ("dealt", "r", (["a"],)), ("dealt", "r", ("a", 1)), ("zero", "r", ("a",)),
    ("dealt", "r", None), (("dealt", "r", ("a",)),), {"copied": 1},
]


class Tables(unittest.TestCase):
    def test_attributes(self):
        table = Table("t", ["k", "c"])
        self.assertEqual((table.name, table.columns, table.key, table.lies), ("t", ["k", "c"], [], ("anyhow",)))
        table = Table("orders_2", ("b", "a", "c"), key=("c", "a"), lies=("dealt", "r", ("a", "b")))
        self.assertEqual((table.columns, table.key), (["b", "a", "c"], ["c", "a"]))
        self.assertEqual(table.lies, ("dealt", "r", ("a", "b")))
        self.assertEqual(Table.MOST_COLUMNS, 8)
        self.assertEqual(table.MOST_COLUMNS, 8)

    def test_a_name_may_stand_for_several_things(self):
        table = Table("k", ["k", "r"], key=["k"], lies=("dealt", "k", ("k",)))
        self.assertEqual(str(table), "table k k r key k dealt k k")

    def test_name(self):
        for name in ("t", "t_", "t0", "abcdefgh", "tables", "keys", "zeros"):
            self.assertEqual(Table(name, ["k"]).name, name)
        for name in ("", "T", "0t", "_t", "t-", "abcdefghi", "table", "self", "in", "zero", "t t", "t\n", "\xe4"):
            self.assertEqual(fault(Table, name, ["k"]), ("InvalidTable", name, "name"))

    def test_how_many_columns(self):
        for many in range(1, 9):
            self.assertEqual(Table("t", EIGHT[:many]).columns, EIGHT[:many])
        for columns in ([], (), EIGHT + ["i"]):
            self.assertEqual(fault(Table, "t", columns), ("InvalidTable", "t", "columns"))

    def test_columns(self):
        for columns in (["K"], ["k", "sum"], ["k", ""], ["k", "l", "k"], ["k", "k"], ["k", "abcdefghi"]):
            self.assertEqual(fault(Table, "t", columns), ("InvalidTable", "t", "columns"))

    def test_key(self):
        for key in ([], ["a"], ["b", "a"], EIGHT, EIGHT[::-1], ("c", "h")):
            self.assertEqual(Table("t", EIGHT, key=key).key, list(key))
        for key in (["z"], ["a", "z"], ["a", "a"], ["a", "b", "a"], [""], EIGHT + ["a"]):
            self.assertEqual(fault(Table, "t", EIGHT, key=key), ("InvalidTable", "t", "key"))

    def test_lies(self):
        for lies, words in GOOD_LIES:
            table = Table("t", EIGHT, lies=lies)
            self.assertEqual(table.lies, lies)
            self.assertEqual(str(table), "table t a b c d e f g h " + words)
        for lies in WRONG_LIES:
            self.assertEqual(fault(Table, "t", EIGHT, lies=lies), ("InvalidTable", "t", "lies"), lies)

    def test_order_of_the_reasons(self):
        self.assertEqual(fault(Table, "T", [], key=["z"], lies=()), ("InvalidTable", "T", "name"))
        self.assertEqual(fault(Table, "t", ["a", "a"], key=["z"], lies=()), ("InvalidTable", "t", "columns"))
        self.assertEqual(fault(Table, "t", ["a"], key=["z"], lies=()), ("InvalidTable", "t", "key"))
        self.assertEqual(fault(Table, "t", ["a"], key=["a", "a"], lies=None), ("InvalidTable", "t", "key"))
        self.assertEqual(fault(Table, "t", ["a"], key=["a"], lies=None), ("InvalidTable", "t", "lies"))

    def test_its_error(self):
        with self.assertRaises(InvalidTable) as caught:
            Table("t", ["a"], key=["b"])
        self.assertIsInstance(caught.exception, InputError)


class Others(unittest.TestCase):
    def setUp(self):
        self.table = Table("t", ["k", "c"], key=["k"], lies=("zero",))

    def test_with_lie(self):
        for lies, words in GOOD_LIES:
            wide = Table("t", EIGHT, key=["a"]).with_lie(lies)
            self.assertEqual(str(wide), "table t a b c d e f g h key a " + words)
        other = self.table.with_lie(("dealt", "r", ("c",)))
        self.assertEqual(str(other), "table t k c key k dealt r c")
        self.assertEqual(str(self.table), "table t k c key k zero")

    def test_with_key(self):
        self.assertEqual(str(self.table.with_key("c", "k")), "table t k c key c k zero")
        self.assertEqual(str(self.table.with_key()), "table t k c zero")
        self.assertEqual(self.table.with_key().key, [])
        self.assertEqual(self.table.key, ["k"])

    def test_what_raises_changes_nothing(self):
        for lies in WRONG_LIES:
            self.assertEqual(fault(self.table.with_lie, lies), ("InvalidTable", "t", "lies"))
        for key in (("z",), ("k", "k"), ("k", "z")):
            self.assertEqual(fault(self.table.with_key, *key), ("InvalidTable", "t", "key"))
        self.assertEqual(str(self.table), "table t k c key k zero")
        self.assertEqual((self.table.key, self.table.lies), (["k"], ("zero",)))

    def test_equal(self):
        self.assertEqual(self.table, Table("t", ("k", "c"), key=("k",), lies=("zero",)))
        self.assertEqual(self.table, self.table.with_lie(("copied",)).with_lie(("zero",)))
        unlike = [
            Table("s", ["k", "c"], key=["k"], lies=("zero",)), Table("t", ["c", "k"], key=["k"], lies=("zero",)),
            Table("t", ["k", "c", "d"], key=["k"], lies=("zero",)), self.table.with_key(),
            self.table.with_key("k", "c"), self.table.with_lie(("copied",)),
        ]
        for other in unlike:
            self.assertNotEqual(self.table, other)
            self.assertFalse(self.table == other)

    def test_equal_to_no_other_thing(self):
        for other in (str(self.table), None, 0, ("table", "t"), [], {}):
            self.assertFalse(self.table == other)
            self.assertTrue(self.table != other)

    def test_lists_are_copied(self):
        columns, key = ["k", "c"], ["k"]
        table = Table("t", columns, key=key)
        columns.append("d")
        key.clear()
        self.assertEqual((table.columns, table.key, str(table)), (["k", "c"], ["k"], "table t k c key k anyhow"))
        other = table.with_key("c")
        self.assertIsNot(other.columns, table.columns)
        self.assertEqual(columns, ["k", "c", "d"])
