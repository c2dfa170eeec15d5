"""The desk: point 35."""

import unittest

from splitplans.desk import Desk
from splitplans.errors import (
    InvalidPlan, InvalidStep, InvalidTable, InvalidTerm, NothingToUndo, PlanError, TooMany, UnknownDeed, UnknownName,
)
from splitplans.plans import Plan, scan
from splitplans.runs import judge
from splitplans.tables import Table

from helpers import Dice, fault
from planmaker import drawn_plan

A = Table("a", ["k", "x"])
B = Table("b", ["j", "y"], key=("j",), lies=("copied",))
ROOT = scan(A).group_by("k", n="count").join_with(scan(B), [("k", "j")]).sort_by("k")


def rows(plan):
    return str(plan).split("\n")


class DeskTest(unittest.TestCase):
    def setUp(self):
        self.plan = Plan(ROOT, ["k"])
        self.text = str(self.plan)
        self.desk = Desk(self.plan)

    def unchanged(self, deed, *args):
        """The fault of a deed that changes nothing."""
        before = (str(self.desk.plan), self.desk.undoable)
        found = fault(deed, *args)
        self.assertIsNotNone(found, args)
        self.assertEqual((str(self.desk.plan), self.desk.undoable), before)
        self.assertEqual(str(self.plan), self.text)
        return found


class Tables(DeskTest):
    def test_set_lie(self):
        for lies, words in ((("copied",), "copied"), (("zero",), "zero"), (("dealt", "r", ("x", "k")), "dealt r x k"),
                            (("anyhow",), "anyhow")):
            plan = self.desk.set_lie("a", lies)
            self.assertEqual(rows(plan)[0], f"table a k x {words}")
            self.assertEqual(rows(plan)[1:], rows(self.plan)[1:])
            self.assertEqual(self.desk.plan, plan)
        self.assertEqual(self.desk.undoable, 4)
        self.assertEqual(self.plan.tables[0], A)

    def test_set_key(self):
        self.assertEqual(rows(self.desk.set_key("a", ["x"]))[0], "table a k x key x anyhow")
        self.assertEqual(rows(self.desk.set_key("b", []))[1], "table b j y copied")
        self.assertEqual(rows(self.desk.set_key("b", ["y", "j"]))[1], "table b j y key y j copied")
        self.assertEqual(rows(self.desk.plan)[0], "table a k x key x anyhow")
        self.assertEqual(rows(self.desk.set_lie("b", ("zero",)))[1], "table b j y key y j zero")

    def test_unknown_tables(self):
        for name in ("c", "", "k", None, "A"):
            self.assertEqual(self.unchanged(self.desk.set_lie, name, ("zero",)), ("UnknownName", name))
            self.assertEqual(self.unchanged(self.desk.set_key, name, []), ("UnknownName", name))
        # Before what is wrong with the lie or the key.
        self.assertEqual(self.unchanged(self.desk.set_lie, "c", None), ("UnknownName", "c"))
        self.assertEqual(self.unchanged(self.desk.set_key, "c", ["q", "q"]), ("UnknownName", "c"))

    def test_errors_of_tables(self):
        for lies in (None, ("anywhere",), ["zero"], ("dealt", "r", ("j",)), ("dealt", "r", ()), ("zero", 1)):
            self.assertEqual(self.unchanged(self.desk.set_lie, "a", lies), ("InvalidTable", "a", "lies"))
        for columns in (["j"], ["k", "k"], ["k", "x", "y"]):
            self.assertEqual(self.unchanged(self.desk.set_key, "a", columns), ("InvalidTable", "a", "key"))

    def test_a_list_that_was_passed(self):
        columns = ["k"]
        plan = self.desk.set_key("a", columns)
        columns.append("x")
        self.assertEqual(rows(plan)[0], "table a k x key k anyhow")


class Steps(DeskTest):
    def test_put(self):
        self.assertEqual(rows(self.desk.put(1, ("split", "r", ("k", "x"))))[2:6],
                         ["1 scan a", "2 split 1 r k x", "3 group 2 k with n count", "4 scan b"])
        self.assertEqual(rows(self.desk.put(3, ("own", "q", ("k",))))[4:8],
                         ["3 group 2 k with n count", "4 own 3 q k", "5 scan b", "6 join 4 5 k j"])
        self.assertEqual(rows(self.desk.put(5, ("broadcast",)))[6:9], ["5 scan b", "6 broadcast 5", "7 join 4 6 k j"])
        self.assertEqual(self.desk.undoable, 3)

    def test_behind_the_root(self):
        plan = self.desk.put(5, ("merge", ("k",)))
        self.assertEqual(rows(plan)[-3:], ["5 sort 4 k", "6 merge 5 k", "answer in k"])
        plan = self.desk.put(6, ("gather",))
        self.assertEqual(rows(plan)[-3:], ["6 merge 5 k", "7 gather 6", "answer in k"])
        self.assertEqual(rows(self.plan)[-2:], ["5 sort 4 k", "answer in k"])
        self.assertEqual(self.desk.plan.order, ["k"])

    def test_take(self):
        self.desk.put(1, ("gather",))
        self.desk.put(2, ("own", "r", ("k",)))
        self.desk.put(7, ("merge", ("k",)))
        self.assertEqual(len(self.desk.plan), 8)
        self.assertEqual(rows(self.desk.take(8))[-2:], ["7 sort 6 k", "answer in k"])
        self.assertEqual(rows(self.desk.take(2))[3:5], ["2 own 1 r k", "3 group 2 k with n count"])
        self.assertEqual(self.desk.take(2), self.plan)
        self.assertEqual(self.desk.undoable, 6)

    def test_each_exchange_can_be_taken(self):
        for exchange in (("split", "r", ("k",)), ("own", "r", ("k",)), ("gather",), ("broadcast",), ("merge", ("k",))):
            self.desk.put(5, exchange)
            self.assertEqual(self.desk.plan[6].kind, exchange[0])
            self.assertEqual(self.desk.take(6), self.plan)

    def test_numbers_that_are_no_steps(self):
        for number in (0, 6, -1, 99):
            self.assertEqual(self.unchanged(self.desk.put, number, ("gather",)), ("InvalidPlan", number, "number"))
            self.assertEqual(self.unchanged(self.desk.take, number), ("InvalidPlan", number, "number"))
            # Before the form.
            self.assertEqual(self.unchanged(self.desk.put, number, None), ("InvalidPlan", number, "number"))

    def test_take_of_other_steps(self):
        for number in range(1, 6):
            self.assertEqual(self.unchanged(self.desk.take, number), ("InvalidPlan", number, "number"))

    def test_form(self):
        wrong = [None, (), "gather", ["gather"], ("gather", ()), ("gather", "r"), ("broadcast", ("k",)), ("split", "r"),
                 ("split", "r", ["k"]), ("split", "r", "k"), ("split", ("k",)), ("split", "r", ("k",), 1), ("own", ("k",)),
                 ("own", "r", ["k"]), ("own", "r", None), ("merge", "k"), ("merge", ["k"]), ("merge",), ("merge", "r", ("k",)),
                 ("sort", ("k",)), ("where", "p", ("k",)), ("distinct",), (None,), (1, ("k",)), ("Gather",), ((),), ([],), ({}, ("k",)), 5]
        for exchange in wrong:
            self.assertEqual(self.unchanged(self.desk.put, 1, exchange), ("InvalidStep", "form"), exchange)

    def test_errors_of_steps(self):
        for exchange, reason in ((("split", "R", ("k",)), "name"), (("own", "scan", ("k",)), "name"), (("split", "r", ()), "count"),
                                 (("own", "r", ("k",) * 4), "count"), (("merge", ()), "count"), (("split", "r", ("q",)), "column"),
                                 (("own", "r", ("k", "k")), "column"), (("merge", ("k", "k")), "column"), (("merge", ("q",)), "column"),
                                 (("split", None, ("k",)), "name"), (("split", "r", (None,)), "column")):
            self.assertEqual(self.unchanged(self.desk.put, 1, exchange), ("InvalidStep", reason), exchange)
        for exchange in (("split", "r", ("n",)), ("own", "r", ("n",)), ("merge", ("n",))):
            self.assertEqual(self.unchanged(self.desk.put, 2, exchange), ("InvalidStep", "measure"))

    def test_errors_of_plans(self):
        self.assertEqual(self.unchanged(self.desk.put, 1, ("merge", ("k",))), ("InvalidPlan", 2, "merge"))
        self.desk.put(5, ("merge", ("k",)))
        # What is put below the merge: an exchange lets it be no longer sorted as written, an own does not.
        for exchange in (("gather",), ("broadcast",), ("split", "r", ("k",)), ("merge", ("k",))):
            self.assertEqual(self.unchanged(self.desk.put, 5, exchange), ("InvalidPlan", 7, "merge"))
        self.assertEqual(rows(self.desk.put(5, ("own", "r", ("k",))))[-3:], ["6 own 5 r k", "7 merge 6 k", "answer in k"])

    def test_too_many(self):
        for _ in range(19):
            self.desk.put(1, ("gather",))
        self.assertEqual(len(self.desk.plan), 24)
        self.assertEqual(self.unchanged(self.desk.put, 1, ("gather",)), ("TooMany", 24))
        self.assertEqual(self.unchanged(self.desk.put, 9, ("own", "r", ("k",))), ("TooMany", 24))
        # The step's error comes first.
        self.assertEqual(self.unchanged(self.desk.put, 1, ("own", "r", ("q",))), ("InvalidStep", "column"))
        self.desk.take(2)
        self.assertEqual(len(self.desk.put(1, ("gather",))), 24)

    def test_numbers_anew(self):
        joined = Desk(Plan(scan(A).anti_with(scan(B), [("k", "j")])))
        plan = joined.put(1, ("gather",))
        self.assertEqual((plan.antis, plan.exchanges, plan.inputs_of(4)), ([4], [2], [2, 3]))

    def test_plans_of_all_kinds_of_steps(self):
        """Each plan is made anew just as it was, with what was put in."""
        for seed in range(150):
            plan = drawn_plan(Dice(seed), 14)
            if len(plan) == 24:
                continue
            desk = Desk(plan)
            for number in range(1, len(plan) + 1):
                found = fault(desk.put, number, ("gather",))
                if found is None:
                    self.assertEqual(len(desk.plan), len(plan) + 1)
                    self.assertEqual(desk.take(number + 1), plan)
                else:
                    self.assertEqual((found[0], found[2]), ("InvalidPlan", "merge"))


class Undoing(DeskTest):
    def test_down_to_nothing(self):
        plans = [str(self.desk.plan)]
        for deed in (lambda: self.desk.put(1, ("gather",)), lambda: self.desk.set_lie("a", ("zero",)),
                     lambda: self.desk.take(2), lambda: self.desk.set_key("b", [])):
            deed()
            plans.append(str(self.desk.plan))
        self.assertEqual(len(set(plans)), 5)
        for left in (3, 2, 1, 0):
            plan = self.desk.undo()
            self.assertEqual((str(plan), str(self.desk.plan), self.desk.undoable), (plans[left], plans[left], left))
        self.assertEqual(self.unchanged(self.desk.undo), ("NothingToUndo",))
        self.assertEqual(self.desk.plan, self.plan)

    def test_an_undo_is_no_deed(self):
        self.desk.put(1, ("gather",))
        self.desk.undo()
        self.assertEqual(self.desk.undoable, 0)
        self.desk.set_lie("a", ("zero",))
        self.assertEqual(self.desk.undoable, 1)
        self.assertEqual(self.desk.undo(), self.plan)

    def test_deeds_that_change_nothing_count(self):
        self.desk.set_lie("a", ("anyhow",))
        self.desk.set_key("b", ["j"])
        self.assertEqual((self.desk.plan, self.desk.undoable), (self.plan, 2))
        self.desk.undo()
        self.assertEqual((self.desk.plan, self.desk.undoable), (self.plan, 1))

    def test_errors_do_not_count(self):
        self.desk.put(1, ("gather",))
        self.unchanged(self.desk.put, 1, None)
        self.unchanged(self.desk.set_lie, "q", ("zero",))
        self.unchanged(self.desk.try_all, [("take", 2), ("take", 2)])
        self.assertEqual(self.desk.undoable, 1)
        self.assertEqual(self.desk.undo(), self.plan)

    def test_a_new_desk(self):
        self.assertEqual((self.desk.undoable, self.desk.plan), (0, self.plan))
        self.assertEqual(self.unchanged(self.desk.undo), ("NothingToUndo",))
        other = Desk(self.plan)
        other.put(1, ("gather",))
        self.assertEqual((self.desk.undoable, self.desk.plan), (0, self.plan))


class TryAll(DeskTest):
    def test_several_with_one_undo(self):
        deeds = [("put", 1, ("split", "r", ("k",))), ("lie", "b", ("zero",)), ("key", "a", ["k"]), ("put", 6, ("gather",)),
                 ("take", 2)]
        plan = self.desk.try_all(deeds)
        self.assertEqual(rows(plan)[:2], ["table a k x key k anyhow", "table b j y key j zero"])
        self.assertEqual(rows(plan)[-3:], ["5 sort 4 k", "6 gather 5", "answer in k"])
        self.assertEqual((self.desk.plan, self.desk.undoable), (plan, 1))
        self.assertEqual(self.desk.undo(), self.plan)
        self.assertEqual(len(deeds), 5)

    def test_none_at_all(self):
        self.assertEqual(self.desk.try_all([]), self.plan)
        self.assertEqual(self.desk.undoable, 1)
        self.assertEqual((self.desk.undo(), self.desk.undoable), (self.plan, 0))

    def test_as_the_single_deeds(self):
        deeds = [("lie", "a", ("zero",)), ("key", "b", ["y"]), ("put", 2, ("broadcast",)), ("put", 1, ("own", "r", ("x",))),
                 ("take", 2), ("key", "b", ()), ("put", 5, ("merge", ("k",)))]
        deeds = deeds[:-1] + [("put", 6, ("merge", ("k",)))]
        plan = self.desk.try_all(deeds)
        other = Desk(self.plan)
        other.set_lie("a", ("zero",))
        other.set_key("b", ["y"])
        other.put(2, ("broadcast",))
        other.put(1, ("own", "r", ("x",)))
        other.take(2)
        other.set_key("b", [])
        other.put(6, ("merge", ("k",)))
        self.assertEqual(plan, other.plan)
        self.assertEqual((self.desk.undoable, other.undoable), (1, 7))

    def test_an_error_in_the_midst(self):
        good = ("put", 1, ("gather",))
        for wrong, found in ((("lie", "q", ("zero",)), ("UnknownName", "q")), (("lie", "a", ()), ("InvalidTable", "a", "lies")),
                             (("key", "a", ["q"]), ("InvalidTable", "a", "key")), (("take", 1), ("InvalidPlan", 1, "number")),
                             (("take", 7), ("InvalidPlan", 7, "number")), (("put", 7, ("gather",)), ("InvalidPlan", 7, "number")),
                             (("put", 1, ("sort", ("k",))), ("InvalidStep", "form")), (("put", 1, ("merge", ("k",))), ("InvalidPlan", 2, "merge")),
                             (("put", 1, ("own", "r", ())), ("InvalidStep", "count"))):
            for deeds in ([wrong], [good, wrong], [good, wrong, good], [wrong, None]):
                self.assertEqual(self.unchanged(self.desk.try_all, deeds), found)
        self.assertEqual(self.unchanged(self.desk.try_all, [good, ("take", 2), ("take", 2)]), ("InvalidPlan", 2, "number"))
        self.assertEqual(self.desk.undoable, 0)

    def test_unknown_deeds(self):
        good = ("put", 1, ("gather",))
        wrong = [None, (), "undo", ("undo",), ("lie", "a"), ("lie", "a", ("zero",), 1), ("key", "a"), ("put", 1), ("put",),
                 ("put", 1, ("gather",), 2), ("take",), ("take", 1, 1), ["take", 1], list(good), ("set_lie", "a", ("zero",)),
                 (None, 1), (1, 2), (("take",), 1), (["take"], 1), ({}, 1), ("Take", 1), 7, {}, ("key", "a", None), ("try_all", [])]
        for deed in wrong:
            self.assertEqual(self.unchanged(self.desk.try_all, [deed]), ("UnknownDeed", 0), deed)
            self.assertEqual(self.unchanged(self.desk.try_all, [good, good, deed, None]), ("UnknownDeed", 2), deed)
            # When it is its turn.
            self.assertEqual(self.unchanged(self.desk.try_all, [("take", 1), deed]), ("InvalidPlan", 1, "number"))

    def test_a_list_that_was_passed(self):
        columns = ["k"]
        deeds = [("key", "a", columns)]
        plan = self.desk.try_all(deeds)
        columns.clear()
        deeds.clear()
        self.assertEqual(rows(plan)[0], "table a k x key k anyhow")

    def test_too_many(self):
        self.assertEqual(self.unchanged(self.desk.try_all, [("put", 1, ("gather",))] * 20), ("TooMany", 24))
        self.assertEqual(len(self.desk.try_all([("put", 1, ("gather",))] * 19)), 24)
        self.assertEqual(self.desk.undoable, 1)


class Right(DeskTest):
    def test_against_the_verdict(self):
        self.assertFalse(self.desk.is_right())
        self.desk.set_lie("a", ("zero",))
        self.assertTrue(self.desk.is_right())
        self.desk.undo()
        self.desk.put(1, ("gather",))
        self.assertTrue(self.desk.is_right())
        self.desk.put(6, ("gather",))
        self.assertTrue(self.desk.is_right())
        self.desk.try_all([("take", 2), ("put", 1, ("split", "r", ("k",)))])
        # Each worker's rows are sorted, but not those that the gather brings.
        self.assertFalse(self.desk.is_right())
        self.assertTrue(Desk(Plan(self.desk.plan.root)).is_right())
        self.desk.try_all([("take", 7), ("put", 6, ("merge", ("k",)))])
        self.assertTrue(self.desk.is_right())

    def test_drawn_plans(self):
        found = [0, 0]
        for seed in range(150):
            plan = drawn_plan(Dice(seed), 6)
            right = Desk(plan).is_right()
            self.assertEqual(right, judge(plan).paper is not None)
            self.assertIs(right, bool(right))
            found[right] += 1
        self.assertGreater(min(found), 10)

    def test_plans_that_were_returned_stay(self):
        first = self.desk.put(1, ("gather",))
        text = str(first)
        self.desk.take(2)
        self.desk.set_lie("a", ("zero",))
        self.desk.undo()
        self.desk.undo()
        self.assertEqual((str(first), str(self.plan)), (text, self.text))
        self.assertEqual(self.desk.plan, first)


class Errors(DeskTest):
    def test_classes(self):
        for error, deed, args in ((UnknownName, self.desk.set_lie, ("q", ())), (InvalidTable, self.desk.set_key, ("a", ["q"])),
                                  (InvalidPlan, self.desk.take, (1,)), (InvalidStep, self.desk.put, (1, ())),
                                  (UnknownDeed, self.desk.try_all, ([()],)), (NothingToUndo, self.desk.undo, ()),
                                  (TooMany, self.desk.try_all, ([("put", 1, ("gather",))] * 30,))):
            with self.assertRaises(error) as caught:
                deed(*args)
            self.assertIsInstance(caught.exception, PlanError)
            self.assertNotIsInstance(caught.exception, InvalidTerm)
