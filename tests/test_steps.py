"""Steps: points 10 to 12, as far as they say what a step is."""

import unittest

from splitplans.errors import InputError, InvalidStep
from splitplans.plans import Plan, Step, scan
from splitplans.tables import Table

from helpers import fault

EIGHT = ["a", "b", "c", "d", "e", "f", "g", "h"]
BAD_NAMES = ["", "F", "1f", "f-", "sum", "self", "abcdefghi", None, 5]


def wide(start=""):
    """A scan of eight columns."""
    return scan(Table(f"t{start}", [start + column for column in EIGHT]))


def nine():
    return wide().compute("i", "f", "a")


def grouped():
    """A step with the columns a, b, n, m of which n and m are measures."""
    return wide().group_by("a", "b", n="count", m=("sum", "c"))


class Tested(unittest.TestCase):
    def refused(self, reason, call, *args, **more):
        self.assertEqual(fault(call, *args, **more), ("InvalidStep", reason), args)

    def made(self, step, kind, columns, measures=()):
        self.assertIsInstance(step, Step)
        self.assertEqual((step.kind, step.columns, step.measures), (kind, list(columns), list(measures)))
        self.assertIsInstance(step.inputs, tuple)
        return step


class Scan(Tested):
    def test_scan(self):
        table = Table("t", ["k", "c"], key=["k"], lies=("zero",))
        step = self.made(scan(table), "scan", ["k", "c"])
        self.assertEqual(step.inputs, ())
        self.assertEqual(Plan(step).tables, [table])

    def test_its_error(self):
        with self.assertRaises(InvalidStep) as caught:
            wide().keep()
        self.assertIsInstance(caught.exception, InputError)


class Where(Tested):
    def test_columns(self):
        source = nine()
        for many in range(1, 9):
            step = self.made(source.where("p", *source.columns[:many]), "where", source.columns)
            self.assertEqual(step.inputs, (source,))
        self.made(source.where("p", "a", "a", "i", "a"), "where", source.columns)
        self.refused("count", source.where, "p")
        self.refused("count", source.where, "p", *source.columns)
        self.refused("column", source.where, "p", "z")
        self.refused("column", source.where, "p", "a", "")

    def test_name(self):
        for name in BAD_NAMES:
            self.refused("name", wide().where, name, "a")
        self.refused("name", wide().where, "P")
        self.refused("count", wide().where, "p")

    def test_measures(self):
        source = grouped()
        self.made(source.where("p", "a", "b"), "where", ["a", "b", "n", "m"], ["n", "m"])
        for columns in (("a", "b", "n", "m"), ("m", "a", "n", "b")):
            self.made(source.where("p", *columns), "where", ["a", "b", "n", "m"], ["n", "m"])
        for columns in (("n",), ("a", "n"), ("a", "b", "n"), ("n", "m")):
            self.refused("whole", source.where, "p", *columns)
        self.refused("column", source.where, "p", "n", "n")
        self.refused("column", source.where, "p", "a", "b", "n", "m", "a")
        self.refused("column", source.where, "p", "a", "b", "n", "z")
        self.made(source.keep("n").where("p", "n"), "where", ["n"], ["n"])
        self.made(source.where("p", "a", "a"), "where", ["a", "b", "n", "m"], ["n", "m"])


class Compute(Tested):
    def test_columns(self):
        source = wide()
        for columns in (("a",), ("a", "b"), ("h", "b", "a"), ("a", "a", "a")):
            step = self.made(source.compute("z", "f", *columns), "compute", EIGHT + ["z"])
            self.assertEqual(step.inputs, (source,))
        self.refused("count", source.compute, "z", "f")
        self.refused("count", source.compute, "z", "f", "a", "b", "c", "d")
        self.refused("column", source.compute, "z", "f", "z")
        self.refused("column", source.compute, "z", "f", "a", "x")
        self.made(source.compute("z", "a", "a").compute("y", "a", "z"), "compute", EIGHT + ["z", "y"])

    def test_names(self):
        for name in BAD_NAMES:
            self.refused("name", wide().compute, name, "f", "a")
            self.refused("name", wide().compute, "z", name, "a")
        for name in EIGHT:
            self.refused("name", wide().compute, name, "f", "a")
        self.refused("name", grouped().compute, "n", "f", "a")
        self.refused("name", wide().compute, "a", "f")

    def test_measure(self):
        step = self.made(grouped().compute("z", "f", "a"), "compute", ["a", "b", "n", "m", "z"], ["n", "m"])
        self.refused("measure", grouped().compute, "z", "f", "n")
        self.refused("measure", grouped().compute, "z", "f", "a", "m")
        self.made(step.compute("y", "f", "z"), "compute", ["a", "b", "n", "m", "z", "y"], ["n", "m"])

    def test_deep(self):
        one = wide().compute("i", "f", "a")
        three = one.compute("j", "f", "i", "a").compute("k", "g", "a", "j")
        self.refused("deep", three.compute, "l", "f", "k")
        self.refused("deep", three.compute, "l", "f", "a", "b", "k")
        self.made(three.compute("l", "f", "j", "i"), "compute", EIGHT + ["i", "j", "k", "l"])
        self.refused("column", three.compute, "l", "f", "k", "z")

    def test_deep_above_other_steps(self):
        three = wide().compute("i", "f", "a").compute("j", "f", "i").compute("k", "g", "j")
        above = [
            three.where("p", "k"), three.equal("k", "a"), three.keep("k", "a"), three.distinct(), three.sort_by("k"),
            three.group_by("k", n="count"), three.own_by("r", "k"), three.split_by("r", "k"), three.broadcast(),
            three.gather(), three.sort_by("k").merge_by("k"), three.join_with(wide("x"), [("a", "xa")]),
            wide("x").join_with(three, [("xa", "k")]), three.semi_with(wide("x"), [("k", "xa")]),
            three.anti_with(wide("x"), [("k", "xa")]),
        ]
        for step in above:
            self.refused("deep", step.compute, "z", "f", "k")
            other = [column for column in step.columns if column not in ("k", "n")]
            if other:
                self.assertIsNone(fault(step.compute, "z", "f", other[0]))
        self.assertIsNone(fault(wide("x").semi_with(three, [("xa", "k")]).compute, "z", "f", "xa"))

    def test_deep_above_a_union(self):
        one = wide().compute("i", "f", "a")
        two = wide("x").compute("xi", "f", "xa").compute("xj", "f", "xi")
        for left, right, columns in ((one, two, ("a", "i")), (two, one, ("xa", "xj"))):
            union = left.keep(*columns) + right.keep(right.columns[0], right.columns[-1])
            second = union.columns[1]
            self.refused("deep", union.compute("y", "f", second).compute, "z", "f", "y")
            self.assertIsNone(fault(union.compute("y", "f", union.columns[0]).compute, "z", "f", "y"))

    def test_a_measure_has_no_depth(self):
        union = grouped().keep("a", "n") + wide("x").compute("xi", "f", "xa").keep("xa", "xi")
        self.refused("measure", union.compute, "z", "f", "n")
        self.made(union.compute("z", "f", "a"), "compute", ["a", "n", "z"], ["n"])


class Equal(Tested):
    def test_columns(self):
        source = wide()
        step = self.made(source.equal("h", "a"), "equal", EIGHT)
        self.assertEqual(step.inputs, (source,))
        for left, right in (("a", "z"), ("z", "a"), ("a", "a"), ("z", "z"), ("", "a")):
            self.refused("column", source.equal, left, right)

    def test_measure(self):
        self.made(grouped().equal("a", "b"), "equal", ["a", "b", "n", "m"], ["n", "m"])
        for left, right in (("a", "n"), ("n", "a"), ("n", "m")):
            self.refused("measure", grouped().equal, left, right)
        self.refused("column", grouped().equal, "n", "n")
        self.refused("column", grouped().equal, "n", "z")


class Keep(Tested):
    def test_columns(self):
        source = wide()
        self.made(source.keep("c"), "keep", ["c"])
        step = self.made(source.keep("c", "a"), "keep", ["c", "a"])
        self.assertEqual(step.inputs, (source,))
        self.made(source.keep(*EIGHT[::-1]), "keep", EIGHT[::-1])
        self.refused("count", source.keep)
        self.refused("column", source.keep, "a", "z")
        self.refused("column", source.keep, "a", "b", "a")

    def test_measures(self):
        self.made(grouped().keep("m", "a", "n"), "keep", ["m", "a", "n"], ["m", "n"])
        self.made(grouped().keep("a"), "keep", ["a"])


class Distinct(Tested):
    def test_distinct(self):
        source = wide()
        self.assertEqual(self.made(source.distinct(), "distinct", EIGHT).inputs, (source,))
        self.made(grouped().keep("b", "a").distinct(), "distinct", ["b", "a"])
        self.refused("measure", grouped().distinct)
        self.refused("measure", grouped().keep("n").distinct)


class Group(Tested):
    def test_columns(self):
        source = wide()
        step = source.group_by("b", "a", m=("sum", "c"), n="count")
        self.made(step, "group", ["b", "a", "m", "n"], ["m", "n"])
        self.assertEqual(step.inputs, (source,))
        self.made(source.group_by("a", "b", "c", "d"), "group", ["a", "b", "c", "d"])
        self.made(source.group_by(n="count"), "group", ["n"], ["n"])
        self.made(source.group_by("d", x="count", y="count", z="count"), "group", ["d", "x", "y", "z"], ["x", "y", "z"])
        self.made(source.group_by("a", b=("sum", "a"), c=("sum", "c")), "group", ["a", "b", "c"], ["b", "c"])

    def test_name(self):
        source = wide()
        for name in ("N", "sum", "count", "abcdefghi"):
            self.refused("name", source.group_by, "a", **{name: "count"})
        self.refused("name", source.group_by, "a", "b", b="count")
        self.refused("name", source.group_by, "a", a=("sum", "a"))
        self.refused("name", source.group_by, "z", z="count")

    def test_count(self):
        source = wide()
        self.refused("count", source.group_by)
        self.refused("count", source.group_by, *EIGHT[:5])
        self.refused("count", source.group_by, w="count", x="count", y="count", z="count")
        self.refused("count", source.group_by, "a", "a", "a", "a", "z")

    def test_column(self):
        source = wide()
        self.refused("column", source.group_by, "z")
        self.refused("column", source.group_by, "a", "b", "a")
        self.refused("column", source.group_by, "a", n=("sum", "z"))
        self.refused("column", source.group_by, n="count", m=("sum", "n"))
        self.refused("column", source.group_by, "a", n="max", m=("sum", "z"))

    def test_measures(self):
        source = wide()
        for measure in ("sum", "max", "", None, 1, ("count",), ("sum",), ("max", "a"), ["sum", "a"],
                        ("sum", "a", "b"), ("count", "a"), (), "a", True):
            self.refused("measures", source.group_by, "a", n=measure)
            self.refused("measures", source.group_by, "a", m="count", n=measure)

    def test_measure(self):
        source = grouped()
        self.made(source.group_by("a", s=("sum", "n"), t=("sum", "b")), "group", ["a", "s", "t"], ["s", "t"])
        self.made(source.group_by("a", n=("sum", "n")), "group", ["a", "n"], ["n"])
        self.refused("measure", source.group_by, "n")
        self.refused("measure", source.group_by, "a", "m", x="count")
        self.refused("measures", source.group_by, "n", x="max")
        self.refused("column", source.group_by, "n", "n")


class Ordered(Tested):
    def test_sort_and_merge(self):
        source = wide()
        for kind, call in (("sort", source.sort_by), ("merge", source.merge_by)):
            for columns in (("a",), ("h", "a"), ("c", "b", "a"), ("a", "b", "c", "d")):
                self.assertEqual(self.made(call(*columns), kind, EIGHT).inputs, (source,))
            self.refused("count", call)
            self.refused("count", call, *EIGHT[:5])
            self.refused("count", call, "a", "a", "a", "a", "z")
            self.refused("column", call, "z")
            self.refused("column", call, "a", "b", "a")

    def test_measure(self):
        for call in (grouped().sort_by, grouped().merge_by):
            self.refused("measure", call, "n")
            self.refused("measure", call, "a", "m")
            self.refused("column", call, "n", "n")
            self.assertIsNone(fault(call, "b", "a"))

    def test_own_and_split(self):
        source = wide()
        for kind, call in (("own", source.own_by), ("split", source.split_by)):
            for columns in (("a",), ("h", "a"), ("c", "b", "a")):
                self.assertEqual(self.made(call("r", *columns), kind, EIGHT).inputs, (source,))
            for name in BAD_NAMES:
                self.refused("name", call, name, "a")
            self.refused("name", call, "R")
            self.refused("count", call, "r")
            self.refused("count", call, "r", *EIGHT[:4])
            self.refused("column", call, "r", "z")
            self.refused("column", call, "r", "a", "a")
        for call in (grouped().own_by, grouped().split_by):
            self.refused("measure", call, "r", "n")
            self.refused("measure", call, "r", "b", "m")
            self.refused("column", call, "r", "n", "n")

    def test_broadcast_and_gather(self):
        source = grouped()
        for kind, step in (("broadcast", source.broadcast()), ("gather", source.gather())):
            self.assertEqual(self.made(step, kind, ["a", "b", "n", "m"], ["n", "m"]).inputs, (source,))


class Paired(Tested):
    def calls(self, left):
        return (left.join_with, left.semi_with, left.anti_with)

    def test_columns(self):
        left, right = wide(), wide("x").keep("xb", "xa")
        pairs = [("a", "xa"), ("a", "xb"), ("b", "xa")]
        for many in (1, 2, 3):
            joined = self.made(left.join_with(right, pairs[:many]), "join", EIGHT + ["xb", "xa"])
            self.assertEqual(joined.inputs, (left, right))
            for kind, call in (("semi", left.semi_with), ("anti", left.anti_with)):
                step = self.made(call(right, pairs[:many]), kind, EIGHT)
                self.assertEqual(step.inputs, (left, right))

    def test_measures(self):
        left, right = grouped(), wide("x").group_by("xa", xn="count", xm="count")
        on = [("a", "xa")]
        self.made(left.join_with(right, on), "join", ["a", "b", "n", "m", "xa", "xn", "xm"], ["n", "m", "xn", "xm"])
        self.made(left.semi_with(right, on), "semi", ["a", "b", "n", "m"], ["n", "m"])
        self.made(right.anti_with(left, [("xa", "a")]), "anti", ["xa", "xn", "xm"], ["xn", "xm"])
        for call in self.calls(left):
            self.refused("measure", call, right, [("n", "xa")])
            self.refused("measure", call, right, [("a", "xa"), ("a", "xm")])

    def test_name(self):
        left, right = wide(), scan(Table("s", ["z", "h"]))
        self.refused("name", left.join_with, right, [("a", "z")])
        self.refused("name", left.join_with, right, [])
        self.made(left.semi_with(right, [("a", "z")]), "semi", EIGHT)
        self.made(left.anti_with(right, [("h", "h")]), "anti", EIGHT)

    def test_count(self):
        left, right = wide(), wide("x")
        four = [("a", "xa"), ("b", "xb"), ("c", "xc"), ("d", "xd")]
        for call in self.calls(left):
            self.refused("count", call, right, [])
            self.refused("count", call, right, four)
            self.refused("count", call, right, [("z", "z")] * 4)

    def test_column(self):
        left, right = wide(), wide("x")
        for call in self.calls(left):
            for on in ([("z", "xa")], [("a", "z")], [("xa", "a")], [("a", "xa"), ("b", "z")]):
                self.refused("column", call, right, on)
            self.refused("column", call, right, [("a", "xa"), ("b", "xb"), ("a", "xa")])
            self.assertIsNone(fault(call, right, [("a", "xa"), ("b", "xa"), ("a", "xb")]))
        self.refused("column", grouped().semi_with, right, [("n", "xa"), ("n", "xa")])


class Union(Tested):
    def test_columns(self):
        left, right = wide(), wide("x")
        self.assertEqual(self.made(left + right, "union", EIGHT).inputs, (left, right))
        self.made(right.keep("xa") + left.keep("h"), "union", ["xa"])
        self.refused("count", lambda: left + right.keep("xa"))
        self.refused("count", lambda: nine() + right)

    def test_measures(self):
        left, right = grouped().keep("n", "a", "b"), wide("x").group_by("xa", xn="count", xm="count")
        self.made(left + right, "union", ["n", "a", "b"], ["n", "a", "b"])
        self.made(right + left, "union", ["xa", "xn", "xm"], ["xa", "xn", "xm"])
        self.made(left + wide("y").keep("ya", "yb", "yc"), "union", ["n", "a", "b"], ["n"])
        self.made(wide("y").keep("ya", "yb", "yc") + left, "union", ["ya", "yb", "yc"], ["ya"])


class Several(Tested):
    def test_one_step_under_several_others(self):
        source = wide()
        steps = [source.where("p", "a"), source.keep("a"), source.distinct(), source.group_by(n="count")]
        for step in steps:
            self.assertEqual(step.inputs, (source,))
        self.assertEqual(source.columns, EIGHT)
        self.assertEqual([str(Plan(step)).split("\n")[1] for step in steps], ["1 scan t"] * 4)

    def test_columns_are_copied(self):
        table = Table("t", ["k", "c"])
        source = scan(table)
        for step in (source, source.where("p", "k"), source.sort_by("k"), source.gather()):
            self.assertIsNot(step.columns, table.columns)
        self.assertIsNot(source.gather().columns, source.columns)
        group = source.group_by("k", n="count")
        self.assertIsNot(group.gather().measures, group.measures)

    def test_lists_that_were_passed_may_be_changed(self):
        on = [("a", "xa")]
        steps = [call(wide("x"), on) for call in (wide().join_with, wide().semi_with, wide().anti_with)]
        columns, measures = ["a", "b"], {"n": "count"}
        group, kept = wide().group_by(*columns, **measures), wide().keep(*columns)
        texts = [str(Plan(step)) for step in steps + [group, kept]]
        on.append(("b", "xb"))
        columns.clear()
        measures["n"] = ("sum", "a")
        self.assertEqual([str(Plan(step)) for step in steps + [group, kept]], texts)

    def test_what_raises_changes_nothing(self):
        source = grouped()
        text = str(Plan(source))
        for call in (source.where, source.own_by, source.compute):
            self.assertIsNotNone(fault(call, "p", "z", "z"))
        self.assertIsNotNone(fault(source.join_with, source, []))
        self.assertIsNotNone(fault(lambda: source + wide()))
        self.assertEqual((str(Plan(source)), source.columns, source.measures), (text, ["a", "b", "n", "m"], ["n", "m"]))
