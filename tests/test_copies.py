"""Nothing that was passed is modified; nothing that is changed afterwards changes an answer."""

import unittest

from splitplans.equalities import Equalities
from splitplans.terms import Term, column_term

from helpers import pairs, read, reads, texts_of


class Passed(unittest.TestCase):
    def test_parts_of_a_term(self):
        parts = reads("t.a", "s.b")
        term = Term("function", "f", parts)
        parts.append(read("t.c"))
        del parts[0]
        self.assertEqual(term.text, "f(t.a, s.b)")
        self.assertEqual(term.parts, reads("t.a", "s.b"))
        self.assertEqual(term.second().text, "f(t'.a, s'.b)")

    def test_parts_of_another_term(self):
        first = Term("function", "f", reads("t.a"))
        second = Term("rule", "r", first.parts)
        self.assertIsNot(first.parts, second.parts)
        self.assertIsNot(first.second().parts, first.parts)

    def test_facts(self):
        facts = pairs("t.k = t'.k")
        equalities = Equalities(facts, {"t": ["k"]})
        facts.append(pairs("t.a = 0")[0])
        self.assertEqual(len(equalities), 1)
        self.assertFalse(equalities.follows(*reads("t.a", "0")))
        facts.clear()
        self.assertTrue(equalities.follows(*reads("t", "t'")))
        self.assertEqual(equalities.facts, pairs("t.k = t'.k"))

    def test_keys(self):
        for change in ("column", "table", "other"):
            keys = {"t": ["k"]}
            equalities = Equalities(pairs("t.k = t'.k", "s.j = s'.j"), keys)
            if change == "column":
                keys["t"].append("l")
            elif change == "table":
                del keys["t"]
            else:
                keys["s"] = ["j"]
            self.assertTrue(equalities.follows(*reads("t", "t'")))
            self.assertFalse(equalities.follows(*reads("s", "s'")))
            self.assertTrue(equalities.suppose([], *reads("@t", "@t'")))

    def test_keys_before_they_are_needed(self):
        keys = {"t": ["k"]}
        equalities = Equalities([], keys)
        keys["t"][0] = "l"
        equalities.learn(*reads("t.k", "t'.k"))
        self.assertTrue(equalities.follows(*reads("t", "t'")))

    def test_nothing_is_modified(self):
        facts, keys, more = pairs("t.k = s.x"), {"t": ["k"], "s": ["x", "y"]}, pairs("t'.k = s.x")
        equalities = Equalities(facts, keys)
        left, right = read("f(t.a)"), read("f(t'.a)")
        equalities.suppose(more, left, right)
        equalities.derive(left, right)
        equalities.numbering(left, right)
        equalities.learn(left, right)
        self.assertEqual(facts, pairs("t.k = s.x"))
        self.assertEqual(keys, {"t": ["k"], "s": ["x", "y"]})
        self.assertEqual(more, pairs("t'.k = s.x"))
        self.assertEqual([left, right], reads("f(t.a)", "f(t'.a)"))
        self.assertEqual([part.text for part in left.parts], ["t.a"])


class Returned(unittest.TestCase):
    def setUp(self):
        self.equalities = Equalities(pairs("t.k = t'.k", "s.b = t.a"), {"t": ["k"]})

    def test_facts(self):
        found = self.equalities.facts
        found.clear()
        self.assertEqual(self.equalities.facts, pairs("t.k = t'.k", "s.b = t.a"))
        self.assertEqual(len(self.equalities), 2)
        self.equalities.facts.append(pairs("0 = @t")[0])
        self.assertFalse(self.equalities.follows(*reads("0", "@t")))
        self.assertEqual(self.equalities.learn(*reads("0", "0")), 2)

    def test_derivation(self):
        left, right = reads("r[t.a, f(t.b)]", "r[t'.a, f(t'.b)]")
        before = texts_of(self.equalities.derive(left, right))
        found = self.equalities.derive(left, right)
        for step in found:
            if step[0] in ("apply", "key"):
                step[-1].clear()
        found.clear()
        self.assertEqual(texts_of(self.equalities.derive(left, right)), before)

    def test_numbering(self):
        terms = reads("r[t.a]", "@t'")
        found = self.equalities.numbering(*terms)
        kept = dict(found)
        for text in list(found):
            found[text] = 77
        del found["t"]
        self.assertEqual(self.equalities.numbering(*terms), kept)
        self.assertFalse(self.equalities.follows(*terms))

    def test_rows_of_a_term(self):
        term = read("f(t.a, s.b)")
        term.row_names().clear()
        self.assertEqual(term.row_names(), ["s", "t"])

    def test_questions_change_no_answer(self):
        questions = pairs("t = t'", "t = s", "f(t.z) = f(t'.z)", "f(s.z) = f(s'.z)", "@t = 0")
        before = [self.equalities.follows(left, right) for left, right in questions]
        numbered = self.equalities.numbering(column_term("t", "a"))
        for left, right in questions:
            self.equalities.derive(left, right)
            self.equalities.numbering(left, right)
            self.equalities.suppose(questions, left, right)
        after = [self.equalities.follows(left, right) for left, right in questions]
        self.assertEqual(before, after)
        self.assertEqual(before, [True, False, True, False, False])
        self.assertEqual(self.equalities.numbering(column_term("t", "a")), numbered)
        self.assertEqual(len(self.equalities), 2)
