"""Plan texts: points 15 to 18."""

import unittest

from splitplans.names import WORDS
from splitplans.plans import Plan, scan
from splitplans.tables import Table

from helpers import Dice, fault
from planmaker import drawn_plan

# Each kind of row, and each lie.
LONG = """table t k c x key k c dealt r k c
table s y z copied
table u a anyhow
table v b key b zero
1 scan t
2 where 1 p k c
3 compute 2 n f k c x
4 equal 3 n k
5 keep 4 k c n
6 scan s
7 own 6 q y
8 join 5 7 k y c z
9 distinct 8
10 group 9 k y with m count o sum c
11 split 10 r k
12 sort 11 k y
13 merge 12 k y
14 scan u
15 semi 13 14 k a y a
16 scan v
17 broadcast 16
18 anti 15 17 k b
19 keep 18 k
20 gather 19
answer in k"""

# After how many words a row of LONG may end sooner: behind a column, a pair, a measure, a key.
MAY_END = {
    0: (11,), 5: (5,), 6: (6, 7), 8: (4, 5), 11: (6,), 13: (3, 4, 5, 8), 15: (4,), 16: (4,), 18: (6,), 24: (1,),
}


def rows_of(text):
    return text.split("\n")


def read(text):
    """What Plan.read raises."""
    return fault(Plan.read, text)


class Writing(unittest.TestCase):
    def test_each_kind_of_row(self):
        t = Table("t", ["k", "c", "x"], key=["k", "c"], lies=("dealt", "r", ("k", "c")))
        s, u = Table("s", ["y", "z"], lies=("copied",)), Table("u", ["a"])
        v = Table("v", ["b"], key=["b"], lies=("zero",))
        left = scan(t).where("p", "k", "c").compute("n", "f", "k", "c", "x").equal("n", "k").keep("k", "c", "n")
        step = left.join_with(scan(s).own_by("q", "y"), [("k", "y"), ("c", "z")]).distinct()
        step = step.group_by("k", "y", m="count", o=("sum", "c")).split_by("r", "k")
        step = step.sort_by("k", "y").merge_by("k", "y")
        step = step.semi_with(scan(u), [("k", "a"), ("y", "a")])
        step = step.anti_with(scan(v).broadcast(), [("k", "b")]).keep("k").gather()
        self.assertEqual(str(Plan(step, ["k"])), LONG)

    def test_small_ones(self):
        u = scan(Table("u", ["a"]))
        self.assertEqual(str(Plan(u)), "table u a anyhow\n1 scan u\nanswer")
        self.assertEqual(rows_of(str(Plan(u.group_by(n="count"))))[2], "2 group 1 with n count")
        self.assertEqual(rows_of(str(Plan(u.group_by("a"))))[2], "2 group 1 a")
        union = u + scan(Table("w", ["b"], key=["b"]))
        self.assertEqual(str(Plan(union, ["a"])),
                         "table u a anyhow\ntable w b key b anyhow\n1 scan u\n2 scan w\n3 union 1 2\nanswer in a")


class ReadingBack(unittest.TestCase):
    def test_long(self):
        plan = Plan.read(LONG)
        self.assertEqual(str(plan), LONG)
        self.assertEqual(plan, Plan.read(str(plan)))
        self.assertEqual((plan.order, plan.exchanges, plan.antis), (["k"], [11, 13, 17, 20], [18]))
        self.assertEqual([str(table) for table in plan.tables], rows_of(LONG)[:4])
        self.assertEqual(plan[10].measures, ["m", "o"])
        self.assertEqual(plan[3].columns, ["k", "c", "x", "n"])

    def test_drawn_plans(self):
        for seed in range(150):
            plan = drawn_plan(Dice(seed), 16)
            again = Plan.read(str(plan))
            self.assertEqual(again, plan)
            self.assertEqual(again.order, plan.order)
            self.assertEqual([step.columns for step in again], [step.columns for step in plan])
            self.assertEqual([step.measures for step in again], [step.measures for step in plan])

    def test_read_plans_are_right(self):
        """A plan that was read has the same inputs, and the steps over them can be made anew."""
        plan = Plan.read(LONG)
        self.assertEqual([plan.inputs_of(number) for number in (8, 15, 18)], [[5, 7], [13, 14], [15, 17]])
        self.assertEqual(fault(plan[10].compute, "z", "f", "m"), ("InvalidStep", "measure"))


class FirstWrongWord(unittest.TestCase):
    def changed(self, row, words):
        """LONG with other words in one row."""
        rows = rows_of(LONG)
        rows[row] = " ".join(words)
        return "\n".join(rows)

    def test_a_word_that_never_fits(self):
        """At each place of each row a word that is neither a name nor one of the language."""
        for row, text in enumerate(rows_of(LONG)):
            words = text.split(" ")
            for at in range(len(words)):
                for wrong in ("", "K", "+1", "01", "1.", "-", "k\t", "\tk", "k,", "\u00e9", "abcdefghi"):
                    changed = self.changed(row, words[:at] + [wrong] + words[at + 1:])
                    self.assertEqual(read(changed), ("InvalidText", row, at), changed)

    def test_a_word_in_between(self):
        for row, text in enumerate(rows_of(LONG)):
            words = text.split(" ")
            for at in range(len(words) + 1):
                for wrong in ("", "!", "Scan"):
                    changed = self.changed(row, words[:at] + [wrong] + words[at:])
                    self.assertEqual(read(changed), ("InvalidText", row, at), changed)

    def test_a_row_that_ends_too_soon(self):
        """Where the rest of a row must follow, the number of the words is the one that cannot stand."""
        for row, text in enumerate(rows_of(LONG)):
            words = text.split(" ")
            for many in range(1, len(words)):
                found = read(self.changed(row, words[:many]))
                if many in MAY_END.get(row, ()):
                    self.assertTrue(found is None or found[0] != "InvalidText", (row, many, found))
                else:
                    self.assertEqual(found, ("InvalidText", row, many))

    def test_exchanged_with_the_next(self):
        self.assertEqual(read(self.changed(0, "t table k c x zero".split())), ("InvalidText", 0, 0))
        self.assertEqual(read(self.changed(4, "scan 1 t".split())), ("InvalidText", 4, 0))
        self.assertEqual(read(self.changed(4, "1 t scan".split())), ("InvalidText", 4, 1))
        self.assertEqual(read(self.changed(5, "2 where p 1 k c".split())), ("InvalidText", 5, 2))
        self.assertEqual(read(self.changed(11, "8 join 7 5 k y".split())), ("InvalidText", 11, 2))
        self.assertEqual(read(self.changed(24, "in answer k".split())), ("InvalidText", 24, 0))

    def test_words_of_the_language_are_no_names(self):
        for word in WORDS:
            texts = [
                (0, 1, f"table {word} k anyhow"), (0, 2, f"table t {word} anyhow"),
                (0, 4, f"table t k key {word} zero"),
                (0, 4, f"table t k dealt {word} k"), (0, 5, f"table t k dealt r {word}"),
                (2, 3, f"table t k anyhow\n1 scan t\n2 where 1 {word} k"),
                (2, 4, f"table t k anyhow\n1 scan t\n2 where 1 p {word}"),
                (2, 3, f"table t k anyhow\n1 scan t\n2 compute 1 {word} f k"),
                (2, 4, f"table t k anyhow\n1 scan t\n2 equal 1 k {word}"),
                (2, 4, f"table t k anyhow\n1 scan t\n2 group 1 with {word} count"),
                (2, 6, f"table t k anyhow\n1 scan t\n2 group 1 with n sum {word}"),
                (2, 3, f"table t k anyhow\n1 scan t\n2 own 1 {word} k"),
                (2, 2, f"table t k anyhow\n1 scan t\nanswer in {word}"),
            ]
            for row, at, text in texts:
                self.assertEqual(read(text), ("InvalidText", row, at), text)
        self.assertEqual(read("table t k l key with zero"), ("InvalidText", 0, 5))

    def test_names_near_the_words(self):
        text = "table tables key_ in0 key key_ dealt dealts in0\n1 scan tables\n2 where 1 wheres in0\n" \
               "3 group 2 in0 with counts count sums sum key_\nanswer in in0"
        self.assertEqual(str(Plan.read(text)), text)

    def test_numbers(self):
        head = "table t k anyhow\n1 scan t\n"
        for word in ("+1", "-1", "01", "0", "2", "1.0", "one", "\uff11", "\u0661", "3"):
            self.assertEqual(read(head + f"2 gather {word}\nanswer"), ("InvalidText", 2, 2))
        for word in ("+2", "-2", "02", "1", "3", "0", "2.", "\uff12"):
            self.assertEqual(read(head + f"{word} gather 1\nanswer"), ("InvalidText", 2, 0))
        for word in ("+1", "01", "0", "2"):
            self.assertEqual(read(f"table t k anyhow\n{word} scan t\nanswer"), ("InvalidText", 1, 0))

    def test_ten_and_more(self):
        rows = ["table t k anyhow", "1 scan t"] + [f"{at} gather {at - 1}" for at in range(2, 13)]
        self.assertEqual(len(Plan.read("\n".join(rows + ["answer"]))), 12)
        rows[10] = "010 gather 9"
        self.assertEqual(read("\n".join(rows + ["answer"])), ("InvalidText", 10, 0))

    def test_counts_that_are_too_large_can_stand(self):
        nine = "a b c d e f g h i"
        self.assertEqual(read(f"table t {nine} anyhow\n1 scan t\nanswer"), ("InvalidTable", "t", "columns"))
        self.assertEqual(read(f"table t a anyhow\n1 scan t\n2 where 1 p {nine}\nanswer"), ("InvalidStep", "count"))
        self.assertEqual(read("table t a anyhow\n1 scan t\n2 group 1\nanswer"), ("InvalidStep", "count"))
        self.assertEqual(read("table t a anyhow\n1 scan t\nanswer in a a a a"), ("InvalidPlan", 1, "order"))


class Inputs(unittest.TestCase):
    def test_inputs_must_be_loose(self):
        head = "table t k anyhow\ntable s j anyhow\n1 scan t\n2 scan s\n"
        self.assertIsNone(read(head + "3 union 1 2\nanswer"))
        for word in ("2", "3", "0"):
            self.assertEqual(read(head + f"3 union {word} 1\nanswer"), ("InvalidText", 4, 2))
        self.assertEqual(read(head + "3 union 1 1\nanswer"), ("InvalidText", 4, 3))
        self.assertEqual(read(head + "3 gather 1\nanswer"), ("InvalidText", 4, 2))
        self.assertEqual(read(head + "3 gather 2\n4 union 1 2\nanswer"), ("InvalidText", 5, 3))
        self.assertIsNone(read(head + "3 gather 2\n4 union 1 3\nanswer"))

    def test_no_such_input(self):
        self.assertEqual(read("table t k anyhow\n1 where 1 p k"), ("InvalidText", 1, 2))
        self.assertEqual(read("table t k anyhow\n1 gather 0"), ("InvalidText", 1, 2))
        self.assertEqual(read("table t k anyhow\n1 gather"), ("InvalidText", 1, 2))
        for row in ("2 union 1 1", "2 union 0 1", "2 union 1", "2 join 1 1 k k", "2 semi 1 1 k k", "2 anti"):
            self.assertEqual(read("table t k anyhow\n1 scan t\n" + row), ("InvalidText", 2, 2))

    def test_tables(self):
        head = "table t k anyhow\ntable s j anyhow\n"
        self.assertEqual(read(head + "1 scan s"), ("InvalidText", 2, 2))
        self.assertEqual(read(head + "1 scan t\n2 scan t"), ("InvalidText", 3, 2))
        self.assertEqual(read(head + "1 scan t\n2 scan s\n3 scan t"), ("InvalidText", 4, 2))
        self.assertEqual(read(head + "1 scan t\n2 scan s\n3 scan s"), ("InvalidText", 4, 2))
        self.assertEqual(read(head + "1 scan t\nanswer"), ("InvalidText", 3, 0))
        twice = "table t k anyhow\ntable t j anyhow\n1 scan t\n2 scan t\n3 union 1 2\nanswer"
        self.assertEqual(read(twice), ("InvalidPlan", 2, "table"))

    def test_equal_ones_of_two(self):
        text = "table t k anyhow\ntable s k anyhow\n1 scan t\n2 scan s\n3 union 1 2\nanswer in k"
        self.assertEqual(str(Plan.read(text)), text)


class Rows(unittest.TestCase):
    def test_missing_rows(self):
        rows = rows_of(LONG)
        for at in range(4, len(rows) - 2):
            self.assertEqual(read("\n".join(rows[:at] + rows[at + 1:])), ("InvalidText", at, 0))
        self.assertIsNone(read("\n".join(rows[:23] + rows[24:])))
        self.assertEqual(read("\n".join(rows[1:])), ("InvalidText", 3, 2))
        self.assertEqual(read("\n".join(rows[:3] + rows[4:])), ("InvalidText", 18, 2))

    def test_no_answer(self):
        rows = rows_of(LONG)
        for many in range(1, len(rows)):
            self.assertEqual(read("\n".join(rows[:many])), ("InvalidText", many, 0))

    def test_doubled_rows(self):
        rows = rows_of(LONG)
        for at in range(4, len(rows)):
            self.assertEqual(read("\n".join(rows[:at + 1] + rows[at:])), ("InvalidText", at + 1, 0))
        self.assertEqual(read("\n".join(rows[:1] + rows)), ("InvalidText", 10, 2))

    def test_exchanged_rows(self):
        rows = rows_of(LONG)
        for at in range(3, len(rows) - 1):
            changed = rows[:at] + [rows[at + 1], rows[at]] + rows[at + 2:]
            # The first one leaves a table too few above a step; before the last one there may be an answer.
            wrong = at + 1 if at in (3, 23) else at
            self.assertEqual(read("\n".join(changed)), ("InvalidText", wrong, 0))

    def test_behind_the_answer(self):
        for more in ("", "answer", "1 scan t", "table t k anyhow", " ", "21 gather 20"):
            self.assertEqual(read(LONG + "\n" + more), ("InvalidText", 25, 0))
        self.assertEqual(read(LONG + "\n\n"), ("InvalidText", 25, 0))

    def test_answer_too_soon(self):
        self.assertEqual(read("answer"), ("InvalidText", 0, 0))
        self.assertEqual(read("table t k anyhow\nanswer"), ("InvalidText", 1, 0))
        two = "table t k anyhow\ntable s j anyhow\n1 scan t\n2 scan s\nanswer"
        self.assertEqual(read(two), ("InvalidText", 4, 0))

    def test_empty_rows_and_words(self):
        self.assertEqual(read(""), ("InvalidText", 0, 0))
        self.assertEqual(read("\n"), ("InvalidText", 0, 0))
        self.assertEqual(read(" "), ("InvalidText", 0, 0))
        self.assertEqual(read("\n" + LONG), ("InvalidText", 0, 0))
        self.assertEqual(read("table"), ("InvalidText", 0, 1))
        self.assertEqual(read("table "), ("InvalidText", 0, 1))
        self.assertEqual(read("table t k anyhow\n\n1 scan t\nanswer"), ("InvalidText", 1, 0))
        self.assertEqual(read("table t k anyhow \n1 scan t\nanswer"), ("InvalidText", 0, 4))
        self.assertEqual(read("table t k anyhow\n1 scan t\nanswer "), ("InvalidText", 2, 1))
        self.assertEqual(read("table t k anyhow\n1 scan t\nanswer in"), ("InvalidText", 2, 2))

    def test_other_white_space(self):
        for text in ("table\tt k anyhow", "table t k anyhow\r\n1 scan t\r\nanswer", "table t k anyhow\x0b1 scan t"):
            found = read(text)
            self.assertEqual(found[:2], ("InvalidText", 0))
        self.assertEqual(read("table t k anyhow\r\n1 scan t\nanswer"), ("InvalidText", 0, 3))

    def test_the_first_row_is_a_table(self):
        for text in ("1 scan t\nanswer", "scan t", "key k", "Table t k anyhow", "t k anyhow"):
            self.assertEqual(read(text), ("InvalidText", 0, 0))

    def test_tables_stand_before_steps(self):
        self.assertEqual(read("table t k anyhow\n1 scan t\ntable s j anyhow\nanswer"), ("InvalidText", 2, 0))

    def test_table_rows(self):
        for text, at in (("table t anyhow", 2), ("table t key k anyhow", 2), ("table t k", 3), ("table t k key", 4),
                         ("table t k key anyhow", 4), ("table t k key k", 5), ("table t k key k key k zero", 5),
                         ("table t k dealt", 4), ("table t k dealt r", 5), ("table t k copied zero", 4),
                         ("table t k dealt r k zero", 6), ("table t k zero key k", 4), ("table t k everywhere", 3)):
            self.assertEqual(read(text), ("InvalidText", 0, at), text)


class ErrorsOfWhatIsMade(unittest.TestCase):
    def test_they_are_raised_as_they_are(self):
        scan_of = "\n1 scan t\n"
        cases = [
            ("table t k k anyhow" + scan_of + "answer", ("InvalidTable", "t", "columns")),
            ("table t k key c anyhow" + scan_of + "answer", ("InvalidTable", "t", "key")),
            ("table t k dealt r c" + scan_of + "answer", ("InvalidTable", "t", "lies")),
            ("table t k dealt r k k" + scan_of + "answer", ("InvalidTable", "t", "lies")),
            ("table t k anyhow" + scan_of + "2 keep 1 c\nanswer", ("InvalidStep", "column")),
            ("table t k anyhow" + scan_of + "2 compute 1 k f k\nanswer", ("InvalidStep", "name")),
            ("table t k anyhow" + scan_of + "2 group 1 with n count n count\nanswer", ("InvalidStep", "name")),
            ("table t k anyhow" + scan_of + "2 group 1 k with k count\nanswer", ("InvalidStep", "name")),
            ("table t k anyhow" + scan_of + "2 merge 1 k\nanswer", ("InvalidPlan", 2, "merge")),
            ("table t k anyhow" + scan_of + "2 where 1 p k\n3 where 2 p k\nanswer", ("InvalidPlan", 3, "test")),
            ("table t k anyhow" + scan_of + "answer in c", ("InvalidPlan", 1, "order")),
        ]
        for text, wanted in cases:
            self.assertEqual(read(text), wanted, text)

    def test_row_by_row(self):
        text = "table t k k anyhow\ntable s j key x anyhow\n1 scan t\n2 keep 1 c\n3 scan s\n4 union 2 3\nanswer in z"
        self.assertEqual(read(text), ("InvalidTable", "t", "columns"))
        text = text.replace("k k", "k")
        self.assertEqual(read(text), ("InvalidTable", "s", "key"))
        text = text.replace(" key x", "")
        self.assertEqual(read(text), ("InvalidStep", "column"))
        text = text.replace("keep 1 c", "sort 1 k")
        self.assertEqual(read(text), ("InvalidPlan", 4, "order"))

    def test_too_many(self):
        rows = ["table t k anyhow", "1 scan t"] + [f"{at} gather {at - 1}" for at in range(2, 26)]
        self.assertEqual(read("\n".join(rows + ["answer"])), ("TooMany", 24))
        self.assertEqual(read("\n".join(rows + ["26 keep 25 c", "answer"])), ("InvalidStep", "column"))

    def test_the_error_of_the_text_goes_first(self):
        wrong = ["table t k k anyhow", "1 scan t", "2 keep 1 c", "3 merge 2 k", "answer"]
        self.assertEqual(read("\n".join(wrong)), ("InvalidTable", "t", "columns"))
        self.assertEqual(read("\n".join(wrong + [""])), ("InvalidText", 5, 0))
        self.assertEqual(read("\n".join(wrong[:4])), ("InvalidText", 4, 0))
        self.assertEqual(read("\n".join(wrong[:3] + ["3 merge 2", "answer"])), ("InvalidText", 3, 3))
        self.assertEqual(read("\n".join(wrong[:4] + ["answer on k"])), ("InvalidText", 4, 1))
