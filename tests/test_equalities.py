"""Equalities: what follows from facts and keys, and that nothing else does."""

import itertools
import unittest

from splitplans.equalities import Equalities
from splitplans.terms import Term

from helpers import pairs, read


class Systems(unittest.TestCase):
    def check(self, facts, keys, follow, not_follow):
        """The facts in each order, each turned about or not, passed or learned."""
        facts = pairs(*facts)
        orders = list(itertools.permutations(facts)) if len(facts) < 4 else [facts, facts[::-1]]
        for order in orders:
            for turned in (0, 1, 2):
                given = [(pair[1], pair[0]) if turned == 1 or (turned == 2 and at % 2) else pair
                         for at, pair in enumerate(order)]
                passed = Equalities(given, keys)
                learned = Equalities(keys=keys)
                for left, right in given:
                    learned.learn(left, right)
                for equalities in (passed, learned):
                    self.ask(equalities, follow, True)
                    self.ask(equalities, not_follow, False)
                    self.ask(equalities, follow, True)

    def ask(self, equalities, questions, told):
        for left, right in pairs(*questions):
            name = f"{left} = {right}"
            self.assertIs(equalities.follows(left, right), told, name)
            self.assertIs(equalities.follows(right, left), told, name)

    def test_no_facts(self):
        self.check([], {}, ["t = t", "t.a = t.a", "0 = 0", "@t = @t", "f(t.a) = f(t.a)", "r[t.a] = r[t.a]"],
                   ["t = t'", "t.a = t'.a", "t.a = t.b", "@t = @t'", "@t = 0", "t = s", "t.a = s.a",
                    "f(t.a) = g(t.a)", "f(t.a) = f(t.a, t.a)", "f(t.a) = r[t.a]", "f(t.a) = f[t.a]",
                    "t = t.a", "0 = r[t.a]", "f(t.a) = t.a"])

    def test_turn_and_join(self):
        self.check(["t.a = s.b", "u.c = s.b", "u.c = v.d"], {},
                   ["t.a = s.b", "t.a = u.c", "t.a = v.d", "s.b = v.d"],
                   ["t.a = t.b", "t = s", "t'.a = s'.b", "t.a = s'.b", "@t = @s"])

    def test_functions_and_rules(self):
        self.check(["t.a = s.b", "t.c = s.d"], {},
                   ["f(t.a) = f(s.b)", "f(t.a, t.c) = f(s.b, s.d)", "f(t.a, s.d) = f(s.b, t.c)",
                    "r[t.a] = r[s.b]", "r[f(t.a), t.c, t.a] = r[f(s.b), s.d, s.b]",
                    "f(g(h(t.a))) = f(g(h(s.b)))"],
                   ["f(t.a) = g(s.b)", "f(t.a, t.c) = f(s.d, s.b)", "f(t.a, t.c) = f(t.a)", "f(t.a) = r[s.b]",
                    "r[t.a] = s[s.b]", "f(t.a) = f(t.c)", "f(g(t.a)) = g(f(s.b))", "t.a = f(t.a)"])

    def test_equal_rows(self):
        self.check(["t = s", "u' = u"], {},
                   ["t.a = s.a", "@t = @s", "f(t.a) = f(s.a)", "r[t.a, s.b] = r[s.a, t.b]", "u.c = u'.c",
                    "@u = @u'", "t.long = s.long"],
                   ["t.a = s.b", "t' = s'", "t.a = t'.a", "@t = @u", "t.a = u.a", "t = u"])

    def test_no_rows_by_their_columns(self):
        self.check(["t.a = t'.a", "@t = @t'"], {"s": ["a"]}, ["t.a = t'.a", "f(t.a) = f(t'.a)"],
                   ["t = t'", "t.b = t'.b", "s = s'", "s.a = s'.a"])

    def test_columns_do_not_show_their_functions_back(self):
        self.check(["f(t.a) = f(s.b)", "r[t.c] = 0"], {}, ["g(f(t.a)) = g(f(s.b))", "r[t.c] = 0"],
                   ["t.a = s.b", "r[s.c] = 0", "r[t.a] = 0", "t.c = t.a"])

    def test_one_key_column(self):
        keys = {"t": ["k"]}
        self.check(["t.k = t'.k"], keys, ["t = t'", "t.a = t'.a", "@t = @t'", "f(t.b) = f(t'.b)"],
                   ["t.k = t.a", "s = s'", "t.a = t'.b"])
        self.check(["t.a = t'.a"], keys, ["t.a = t'.a"], ["t = t'", "t.k = t'.k", "t.b = t'.b"])
        self.check(["t.k = s.x"], keys, ["t.k = s.x"], ["t = t'", "t'.k = s.x"])

    def test_several_key_columns(self):
        keys = {"t": ["k", "l", "m"]}
        self.check(["t.k = t'.k", "t'.l = t.l", "t.m = t'.m"], keys, ["t = t'", "t.a = t'.a", "@t' = @t"], [])
        self.check(["t.k = t'.k", "t.l = t'.l"], keys, ["t.k = t'.k"], ["t = t'", "t.m = t'.m", "t.a = t'.a"])
        # The columns must be equal one by one, not crosswise.
        self.check(["t.k = t'.l", "t.l = t'.k", "t.m = t'.m"], keys, ["t.m = t'.m"], ["t = t'", "t.k = t'.k"])

    def test_keys_by_other_consequences(self):
        self.check(["t.k = f(s.a)", "t'.k = f(u.b)", "s.a = u.b"], {"t": ["k"]}, ["t = t'", "@t = @t'"], ["s = u"])
        self.check(["t = s", "t' = s'", "s.k = s'.k"], {"t": ["k"]}, ["t = t'", "s = s'", "s.z = t'.z"], [])
        self.check(["t = s", "t' = s'", "s.k = s'.k"], {"s": ["j"]}, ["t.k = t'.k"], ["t = t'", "s = s'"])

    def test_one_key_gives_the_next(self):
        keys = {"t": ["k"], "s": ["j"], "u": ["i", "h"]}
        self.check(["t.k = t'.k", "s.j = t.a", "s'.j = t'.a", "u.i = s.b", "u'.i = s'.b", "u.h = u'.h"], keys,
                   ["t = t'", "s = s'", "u = u'", "r[u.z, s.y] = r[u'.z, s'.y]"], ["t = s", "s.j = u.i"])
        self.check(["t.k = t'.k", "s.j = t.a", "s'.j = t'.b", "u.i = s.b", "u'.i = s'.b", "u.h = u'.h"], keys,
                   ["t = t'", "u.h = u'.h"], ["s = s'", "u = u'", "u.i = u'.i"])

    def test_key_columns_that_no_fact_names(self):
        keys = {"t": ["k"]}
        self.check(["t = s", "t' = u", "s = u"], keys, ["t = t'", "t.k = u.k"], [])
        self.check(["t = s", "t' = u", "s.k = v.a", "v.a = u.k"], keys, ["t = t'", "s = u", "@s = @u"], ["s = v"])

    def test_columns_and_places_equal_to_rows(self):
        self.check(["t.a = s", "@u = t.a"], {}, ["s = @u", "t.a = @u"], ["s = t", "@s = @u", "s.b = t.b"])
        self.check(["t.a = s", "t.a = u"], {}, ["s = u", "s.b = u.b", "@s = @u"], ["s = t", "t.b = s.b"])
        self.check(["@t = s", "@t' = s'", "t = t'"], {}, ["s = s'", "s.a = s'.a"], ["s = t"])
        self.check(["t.k = s", "t'.k = s'", "s = s'"], {"t": ["k"]}, ["t = t'", "t.a = t'.a"], ["t = s"])
        self.check(["t.k = 0", "0 = t'.k"], {"t": ["k"]}, ["t = t'"], ["t = 0", "@t = 0"])

    def test_one_name_for_several_things(self):
        """A table's key has nothing to do with columns, functions and rules of the table's name."""
        keys = {"t": ["t"], "s": ["k"]}
        self.check(["t.t = t'.t", "t(v.a) = v.b", "t[v.a] = v.c"], keys, ["t = t'", "t(t.t) = t(t'.t)"],
                   ["t(v.a) = t", "t(v.a) = t'", "t[v.a] = t'", "v.t = t", "v.t = t'", "t(v.a) = t[v.a]"])
        self.check(["s(v.a) = s(v.b)", "v.s = v'.s"], keys, ["s(v.a) = s(v.b)"],
                   ["s = s'", "s(v.a) = s", "v.a = v.b", "v.s = s", "v = v'", "s[v.a] = s[v.b]"])

    def test_facts_that_tell_nothing(self):
        self.check(["t.a = t.a", "t = t", "0 = 0"], {"t": ["a"]}, ["t.a = t.a"], ["t = t'", "t.a = 0"])

    def test_facts_in_circles(self):
        self.check(["f(t.a) = t.a", "g(t.a) = f(t.a)"], {},
                   ["f(f(t.a)) = t.a", "f(f(f(f(t.a)))) = g(g(t.a))", "r[t.a] = r[g(f(t.a))]"],
                   ["f(t.b) = t.b", "f(g(t.b)) = g(f(t.b))", "h(t.a) = t.a"])
        self.check(["f(f(f(t.a))) = t.a", "f(f(f(f(f(t.a))))) = t.a"], {}, ["f(t.a) = t.a"], ["f(t.b) = t.b"])

    def test_ten_deep(self):
        left, right = "t.a", "s.b"
        for at in range(8):
            left, right = f"f({left}, s.b)", f"f({right}, t.a)"
        self.assertEqual(read(left).depth, 10)
        self.check(["t.a = s.b"], {}, [f"{left} = {right}"], [f"{left} = {right[2:].rpartition(',')[0]}"])
        self.check([f"{left} = {right}"], {}, [f"g({left}) = g({right})"], ["t.a = s.b"])
        self.check(["t.a = s.a"], {}, [], [f"{left} = {right}"])


class Facts(unittest.TestCase):
    def test_learn_returns_the_number(self):
        equalities = Equalities(pairs("t.a = s.b"))
        self.assertEqual(len(equalities), 1)
        self.assertEqual(equalities.learn(read("t.c"), read("s.d")), 1)
        self.assertEqual(equalities.learn(read("t.c"), read("s.d")), 2)
        self.assertEqual(equalities.learn(read("0"), read("0")), 3)
        self.assertEqual(len(equalities), 4)
        self.assertEqual(Equalities().learn(read("t"), read("t'")), 0)

    def test_facts(self):
        given = pairs("t.a = s.b", "s.b = t.a", "0 = r[t.a]")
        equalities = Equalities(given)
        equalities.learn(read("@t"), read("0"))
        self.assertEqual(equalities.facts, given + pairs("@t = 0"))
        self.assertIsInstance(equalities.facts, list)
        self.assertTrue(all(isinstance(pair, tuple) for pair in equalities.facts))
        self.assertEqual(Equalities().facts, [])
        self.assertEqual(len(Equalities()), 0)

    def test_learning_after_asking(self):
        equalities = Equalities(keys={"t": ["k"]})
        left, right = read("r[t.a, f(t.b)]"), read("r[t'.a, f(t'.b)]")
        self.assertFalse(equalities.follows(left, right))
        equalities.learn(read("s.x"), read("t.k"))
        self.assertFalse(equalities.follows(left, right))
        equalities.learn(read("t'.k"), read("s.x"))
        self.assertTrue(equalities.follows(left, right))

    def test_keywords(self):
        equalities = Equalities(facts=pairs("t.k = t'.k"), keys={"t": ["k"]})
        self.assertTrue(equalities.follows(left=read("t"), right=read("t'")))
        self.assertTrue(equalities.suppose(pairs=[], left=read("t"), right=read("t'")))
        self.assertEqual(equalities.learn(left=read("0"), right=read("@t")), 1)
        self.assertFalse(Equalities(facts=pairs("t.k = t'.k"), keys=None).follows(read("t"), read("t'")))

    def test_each_object_has_its_own_facts(self):
        one, other = Equalities(), Equalities()
        one.learn(read("t.a"), read("s.b"))
        self.assertEqual((len(one), len(other)), (1, 0))
        self.assertFalse(other.follows(read("t.a"), read("s.b")))


class Suppose(unittest.TestCase):
    def test_with_more_facts(self):
        equalities = Equalities(pairs("t.k = s.x"), {"t": ["k"]})
        left, right = read("@t"), read("@t'")
        self.assertIs(equalities.suppose(pairs("t'.k = s.x"), left, right), True)
        self.assertIs(equalities.suppose(pairs("t'.k = s.y"), left, right), False)
        self.assertIs(equalities.suppose(pairs("t'.k = s.y", "s.y = s.x"), left, right), True)
        self.assertIs(equalities.suppose(pairs("@t' = @t"), left, right), True)
        self.assertIs(equalities.suppose([], left, right), False)
        self.assertIs(equalities.suppose([], left, left), True)
        self.assertIs(equalities.suppose((), left, right), False)

    def test_the_facts_stay(self):
        equalities = Equalities(pairs("t.k = s.x"), {"t": ["k"]})
        more = pairs("t'.k = s.x")
        self.assertTrue(equalities.suppose(more, read("t"), read("t'")))
        self.assertEqual(len(equalities), 1)
        self.assertEqual(equalities.facts, pairs("t.k = s.x"))
        self.assertEqual(more, pairs("t'.k = s.x"))
        self.assertFalse(equalities.follows(read("t"), read("t'")))
        self.assertIsNone(equalities.derive(read("t"), read("t'")))
        self.assertEqual(equalities.learn(read("0"), read("@t")), 1)
        self.assertTrue(equalities.suppose(more, read("@t'"), read("0")))


class Kinds(unittest.TestCase):
    def test_answers_are_truths(self):
        equalities = Equalities(pairs("t.a = s.b"))
        self.assertIs(equalities.follows(Term.read("t.a"), Term.read("s.b")), True)
        self.assertIs(equalities.follows(Term.read("t.a"), Term.read("s.c")), False)
