"""Derivations: those that derive gives, and what shows_same takes and refuses."""

import unittest

from splitplans.equalities import Equalities
from splitplans.stepcheck import shows_same
from splitplans.terms import Term

from helpers import pairs, read

FACTS = pairs("t.a = s.b", "u.c = s.b", "t.k = t'.k", "t.l = t'.l", "t = v")
KEYS = {"t": ["k", "l"], "s": ["b"]}


class Thing:
    """Something that says that it equals everything."""

    def __eq__(self, other):
        return True

    def __hash__(self):
        return 0


JUNK = [None, True, False, -1, 0, 1, 7, 1.0, 10 ** 40, "", "t", "0", "fact", b"t", (), [], {}, (0,), [0],
        {0: 0}, len, Term, Thing(), [[0]], ("fact", 0), [None], [True], ["0"], [Thing()]]


class Looker(unittest.TestCase):
    def takes(self, steps, *texts):
        for left, right in pairs(*texts):
            self.assertIs(shows_same(FACTS, KEYS, steps, left, right), True, f"{left} = {right}: {steps}")

    def refuses(self, steps, *texts):
        for left, right in pairs(*texts):
            self.assertIs(shows_same(FACTS, KEYS, steps, left, right), False, f"{left} = {right}: {steps}")

    def refuses_all(self, steps):
        self.refuses(steps, "t.a = s.b", "t = t'", "t = t", "t = v", "f(t.a) = f(s.b)", "0 = 0", "@t = @v")

    def test_the_empty_list(self):
        self.refuses_all([])

    def test_fact(self):
        self.takes([("fact", 0)], "t.a = s.b")
        self.takes([("fact", 4)], "t = v")
        self.refuses([("fact", 0)], "s.b = t.a", "t.a = t.a", "u.c = s.b", "t.a = s'.b")
        for number in (5, -1, -5, True, False, 0.0, "0", None, (0,), [0], 10 ** 30):
            self.refuses_all([("fact", number)])
        self.refuses_all([("fact",)])
        self.refuses_all([("fact", 0, 0)])
        self.assertFalse(shows_same([], {}, [("fact", 0)], read("t"), read("t")))

    def test_self(self):
        for text in ("t.a", "t", "t'", "0", "@t'", "f(t.a)", "r[f(t.a), s.b]"):
            self.takes([("self", read(text))], f"{text} = {text}")
        self.refuses([("self", read("t"))], "t = t'", "t = s", "t' = t'", "t.a = t.a")
        for thing in ("t", None, 0, ["t"], ("t",), Term, Thing()):
            self.refuses_all([("self", thing)])
        self.refuses_all([("self",)])
        self.refuses_all([("self", read("t"), read("t"))])

    def test_self_of_what_is_no_term(self):
        row, column = read("t"), read("t.a")
        wrong = [Term("function", "f", []), Term("function", "f", [row]), Term("rule", "r", [column] * 4),
                 Term("column", "a", [column]), Term("place", "", [column]), Term("row", "t", [row]),
                 Term("zero", "", [row]), Term("box", "t", [column]), Term("rule", "r", [read("r[t.a]")]),
                 Term("function", "f", [Term("function", "g", [])])]
        for thing in wrong:
            self.assertFalse(shows_same(FACTS, KEYS, [("self", thing)], thing, thing), thing.text)

    def test_turn(self):
        self.takes([("fact", 0), ("turn", 0)], "s.b = t.a")
        self.takes([("fact", 0), ("turn", 0), ("turn", 1)], "t.a = s.b")
        self.refuses([("fact", 0), ("turn", 0)], "t.a = s.b")
        for number in (1, 2, -1, -2, True, False, 0.0, "0", None, [0], (0,)):
            self.refuses_all([("fact", 0), ("turn", number)])
            self.refuses([("fact", 0), ("turn", number)], "s.b = t.a")
        self.refuses([("fact", 0), ("turn",)], "s.b = t.a", "t.a = s.b")
        self.refuses([("fact", 0), ("turn", 0, 0)], "s.b = t.a", "t.a = s.b")
        self.refuses_all([("turn", 0)])
        self.refuses([("turn", 1), ("fact", 0)], "t.a = s.b", "s.b = t.a")

    def test_join(self):
        before = [("fact", 0), ("fact", 1), ("turn", 1)]
        self.takes(before + [("join", 0, 2)], "t.a = u.c")
        self.takes(before + [("turn", 0), ("join", 1, 3)], "u.c = t.a")
        self.refuses(before + [("join", 0, 2)], "u.c = t.a", "t.a = s.b", "s.b = u.c")
        for numbers in ((2, 0), (0, 1), (1, 0), (0, 0), (0, 3), (3, 2), (0, -1), (-3, 2), (False, 2), (0, 2.0),
                        ("0", 2), (0, None), ([0], 2), (0, [2]), (0, 4)):
            self.refuses(before + [("join", *numbers)], "t.a = u.c", "t.a = s.b", "u.c = t.a", "s.b = s.b")
        for step in (("join", 0), ("join",), ("join", 0, 2, 2), ("join", (0, 2)), ("join", [0, 2])):
            self.refuses(before + [step], "t.a = u.c")
        # A truth is no number, though Python takes it for one.
        turned = [("fact", 0), ("turn", 0)]
        self.takes(turned + [("join", 0, 1)], "t.a = t.a")
        self.refuses(turned + [("join", 0, True)], "t.a = t.a")
        self.refuses(turned + [("join", False, 1)], "t.a = t.a")

    def test_apply_by_kinds(self):
        self.takes([("fact", 4), ("apply", read("t.z"), read("v.z"), [0])], "t.z = v.z")
        self.takes([("fact", 4), ("apply", read("@t"), read("@v"), [0])], "@t = @v")
        self.takes([("fact", 0), ("apply", read("f(t.a)"), read("f(s.b)"), [0])], "f(t.a) = f(s.b)")
        self.takes([("fact", 0), ("apply", read("r[t.a]"), read("r[s.b]"), [0])], "r[t.a] = r[s.b]")
        two = [("fact", 0), ("fact", 1), ("apply", read("r[u.c, t.a]"), read("r[s.b, s.b]"), [1, 0])]
        self.takes(two, "r[u.c, t.a] = r[s.b, s.b]")
        same = [("self", read("t.a")), ("apply", read("f(t.a, t.a, t.a)"), read("f(t.a, t.a, t.a)"), [0, 0, 0])]
        self.takes(same, "f(t.a, t.a, t.a) = f(t.a, t.a, t.a)")

    def test_apply_of_rows_and_zero(self):
        for text in ("t", "t'", "0"):
            for numbers in ([], [0]):
                step = ("apply", read(text), read(text), numbers)
                self.refuses([("self", read(text)), step], f"{text} = {text}")
                self.refuses([step], f"{text} = {text}")
        self.refuses([("apply", read("t"), read("t'"), [])], "t = t'")

    def test_apply_with_wrong_heads(self):
        cases = ["f(t.a) = g(s.b)", "f(t.a) = r[s.b]", "f(t.a) = f(s.b, s.b)", "f(t.a, t.a) = f(s.b)",
                 "t.y = v.z", "@t = v.z", "t.z = @v", "f(t.a) = 0", "t.a = s.b"]
        for case in cases:
            (left, right), = pairs(case)
            for numbers in ([0], [1], [0, 0], []):
                self.refuses([("fact", 0), ("fact", 4), ("apply", left, right, numbers)], case)

    def test_apply_with_wrong_numbers(self):
        left, right = read("f(t.a, u.c)"), read("f(s.b, s.b)")
        before = [("fact", 0), ("fact", 1), ("turn", 0)]
        case = "f(t.a, u.c) = f(s.b, s.b)"
        self.takes(before + [("apply", left, right, [0, 1])], case)
        for numbers in ([1, 0], [0], [], [0, 1, 1], [0, 0], [2, 1], [0, 3], [0, -2], [-3, 1], [False, True],
                        [0, True], [0, 1.0], ["0", 1], [None, None], [[0], [1]], (0, 1), (), None, 0, "01",
                        {0: 0, 1: 1}, [0, 1, None], [0, (1,)], range(2), Thing()):
            self.refuses(before + [("apply", left, right, numbers)], case)
        self.refuses(before + [("apply", left, right, [0, 1])], "f(s.b, s.b) = f(t.a, u.c)", "t.a = s.b")
        for step in (("apply", left, right), ("apply", left, right, [0, 1], []), ("apply", left, right, 0, 1),
                     ("apply", left, [0, 1]), ("apply",)):
            self.refuses(before + [step], case)
        for wrong in JUNK + ["f(t.a, u.c)"]:
            self.refuses(before + [("apply", wrong, right, [0, 1])], case)
            self.refuses(before + [("apply", left, wrong, [0, 1])], case)

    def test_key(self):
        before = [("fact", 2), ("fact", 3), ("turn", 0)]
        self.takes(before + [("key", "t", [0, 1])], "t = t'")
        self.takes(before + [("key", "t", [0, 1]), ("turn", 3)], "t' = t")
        self.refuses(before + [("key", "t", [0, 1])], "t' = t", "t = t", "t.k = t'.k", "s = s'")
        for numbers in ([1, 0], [0], [], [0, 1, 1], [0, 0], [2, 1], [0, 3], [0, -2], [-3, 1], [False, True],
                        [0, 1.0], ["0", 1], [None, None], (0, 1), (), None, 0, "01", {0: 0, 1: 1}, range(2)):
            self.refuses(before + [("key", "t", numbers)], "t = t'")
        for table in JUNK + ["s", "v", "t'", "u", read("t")]:
            if table != "t" or isinstance(table, Thing):
                self.refuses(before + [("key", table, [0, 1])], "t = t'", "s = s'", "v = v'")
        for step in (("key", "t"), ("key", "t", [0, 1], []), ("key", "t", 0, 1), ("key", [0, 1]), ("key",)):
            self.refuses(before + [step], "t = t'")
        self.assertFalse(shows_same(FACTS, {}, before + [("key", "t", [0, 1])], read("t"), read("t'")))
        self.assertFalse(shows_same(FACTS, {"t": ["k"]}, before + [("key", "t", [0, 1])], read("t"), read("t'")))
        self.assertTrue(shows_same(FACTS, {"t": ["k"]}, before + [("key", "t", [0])], read("t"), read("t'")))

    def test_key_columns_turned_about(self):
        facts = pairs("t'.k = t.k")
        left, right = read("t"), read("t'")
        self.assertFalse(shows_same(facts, {"t": ["k"]}, [("fact", 0), ("key", "t", [0])], left, right))
        turned = [("fact", 0), ("turn", 0), ("key", "t", [1])]
        self.assertTrue(shows_same(facts, {"t": ["k"]}, turned, left, right))

    def test_each_step_must_be_correct(self):
        right = [("fact", 0), ("turn", 0)]
        self.takes(right, "s.b = t.a")
        for wrong in [("fact", 9), ("turn", 5), (), ("what", 0), ("join", 0, 0), ("self", None)]:
            for at in range(3):
                self.refuses(right[:at] + [wrong] + right[at:], "s.b = t.a", "t.a = s.b")

    def test_the_last_step_counts(self):
        self.takes([("fact", 0), ("fact", 4)], "t = v")
        self.refuses([("fact", 0), ("fact", 4)], "t.a = s.b")

    def test_tuples_of_any_content(self):
        for word in JUNK + ["fact", "self", "turn", "join", "apply", "key", "Fact", "facts", "row"]:
            self.refuses_all([(word,)])
            for first in JUNK + [read("t"), read("f(t.a)")]:
                self.refuses([(word, first)], "s.b = t.a", "f(t.b) = f(t.b)")
                for second in JUNK + [read("t")]:
                    self.refuses([(word, first, second)], "t.a = s.b", "t = t'", "t = v")
        for item in JUNK:
            self.refuses([("fact", 0), ("apply", item, item, item)], "f(t.a) = f(s.b)", "t = t")
            self.refuses([(item, item, item, item, item)], "t = t")

    def test_what_is_no_list_of_tuples(self):
        for steps in (None, (), (("fact", 0),), "fact", 0, {0: ("fact", 0)}, [["fact", 0]], [None], ["fact"], [0]):
            self.refuses(steps, "t.a = s.b")

    def test_what_is_passed_stays(self):
        steps = [("fact", 2), ("fact", 3), ("key", "t", [0, 1])]
        facts, keys = list(FACTS), {"t": ["k", "l"]}
        self.assertTrue(shows_same(facts, keys, steps, read("t"), read("t'")))
        self.assertEqual(steps, [("fact", 2), ("fact", 3), ("key", "t", [0, 1])])
        self.assertEqual((facts, keys), (FACTS, {"t": ["k", "l"]}))

    def test_by_keywords(self):
        self.assertTrue(shows_same(facts=FACTS, keys=KEYS, steps=[("fact", 0)], left=read("t.a"), right=read("s.b")))


class Derive(unittest.TestCase):
    def derived(self, facts, keys, *texts):
        facts = pairs(*facts)
        equalities = Equalities(facts, keys)
        for left, right in pairs(*texts):
            for one, other in ((left, right), (right, left)):
                steps = equalities.derive(one, other)
                self.assertIsInstance(steps, list)
                self.assertTrue(shows_same(facts, keys, steps, one, other), f"{one} = {other}: {steps}")

    def test_each_rule(self):
        self.derived([], {}, "t = t", "0 = 0", "@t' = @t'", "r[f(t.a), t.b] = r[f(t.a), t.b]")
        self.derived(["t.a = s.b", "u.c = s.b", "u.c = v.d"], {}, "t.a = s.b", "t.a = u.c", "v.d = t.a",
                     "f(g(t.a), s.b) = f(g(v.d), u.c)", "r[t.a, t.a, t.b] = r[u.c, s.b, t.b]")
        self.derived(["t = s", "s = u"], {}, "t.a = u.a", "@t = @u", "r[t.a, f(u.b)] = r[s.a, f(t.b)]")
        self.derived(["t.k = t'.k"], {"t": ["k"]}, "t = t'", "@t = @t'", "f(t.a) = f(t'.a)")
        self.derived(["t'.k = s.x", "s.x = t.k", "t.l = t'.l"], {"t": ["k", "l"]}, "t = t'", "t.a = t'.a")

    def test_chains(self):
        facts = [f"c{at}.a = c{at + 1}.a" if at % 2 else f"c{at + 1}.a = c{at}.a" for at in range(60)]
        self.derived(facts, {}, "c0.a = c60.a", "f(c3.a) = f(c44.a)", "r[c1.a, c2.a] = r[c59.a, c60.a]")
        facts = ["t0.k = t0'.k"] + [f"t{at + 1}.k = t{at}.a" for at in range(20)]
        facts += [f"t{at + 1}'.k = t{at}'.a" for at in range(20)]
        self.derived(facts, {f"t{at}": ["k"] for at in range(21)}, "t20 = t20'", "@t7 = @t7'", "t20.z = t20'.z")

    def test_circles(self):
        self.derived(["f(f(f(t.a))) = t.a", "f(f(f(f(f(t.a))))) = t.a"], {}, "f(t.a) = t.a", "f(f(t.a)) = t.a")
        self.derived(["t.k = s", "t'.k = s'", "s = s'", "@t = t.k"], {"t": ["k"], "s": ["k"]},
                     "t = t'", "@t' = s", "@t' = t.k", "@s = @s'")

    def test_facts_by_their_numbers(self):
        facts = pairs("t.a = s.b", "t.a = s.b", "s.b = u.c")
        self.assertEqual(Equalities(facts).derive(read("t.a"), read("s.b")), [("fact", 0)])
        learned = Equalities()
        for left, right in pairs("0 = 0", "t.a = t.a", "s.b = u.c"):
            learned.learn(left, right)
        self.assertEqual(learned.derive(read("s.b"), read("u.c")), [("fact", 2)])

    def test_none_if_it_does_not_follow(self):
        equalities = Equalities(FACTS, KEYS)
        for left, right in pairs("t.a = t.b", "s = s'", "f(t.a) = g(t.a)", "0 = @t", "t = t.a", "@s = @s'"):
            self.assertIsNone(equalities.derive(left, right))

    def test_kinds_of_the_steps(self):
        equalities = Equalities(FACTS, KEYS)
        steps = equalities.derive(read("r[f(t.z), t'.a]"), read("r[f(t'.z), u.c]"))
        self.assertEqual({type(step) for step in steps}, {tuple})
        self.assertEqual({type(step[-1]) for step in steps if step[0] in ("apply", "key")}, {list})
        self.assertIn("key", [step[0] for step in steps])
        self.assertTrue(shows_same(FACTS, KEYS, steps, read("r[f(t.z), t'.a]"), read("r[f(t'.z), u.c]")))

    def test_the_looker_keeps_to_the_facts(self):
        equalities = Equalities(FACTS, KEYS)
        left, right = read("@t"), read("@t'")
        steps = equalities.derive(left, right)
        self.assertTrue(shows_same(FACTS, KEYS, steps, left, right))
        self.assertFalse(shows_same(FACTS, {}, steps, left, right))
        self.assertFalse(shows_same(FACTS[:2], KEYS, steps, left, right))
        self.assertFalse(shows_same(FACTS[::-1], KEYS, steps, left, right))
        self.assertFalse(shows_same(FACTS, KEYS, steps, right, left))
        for at in range(len(steps)):
            self.assertFalse(shows_same(FACTS, KEYS, steps[:at], left, right))
