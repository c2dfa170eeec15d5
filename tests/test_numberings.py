"""Numberings: those that numbering gives, and what keeps and shows_apart take and refuse."""

import unittest

from splitplans.equalities import Equalities
from splitplans.stepcheck import keeps, shows_apart

from helpers import pairs, read, reads

FACTS = pairs("t.a = s.b", "f(t.a) = 0")
GOOD = {"t": 1, "s": 2, "t.a": 3, "s.b": 3, "f(t.a)": 4, "0": 4}
KEYS = {"t": ["k", "l"], "u": ["j"]}
KEYED = {"t": 1, "t'": 2, "t.k": 3, "t'.k": 4, "t.l": 5, "t'.l": 5}


def changed(numbering, **more):
    return {**numbering, **more}


def without(numbering, *texts):
    return {text: number for text, number in numbering.items() if text not in texts}


class Keeps(unittest.TestCase):
    def test_good_ones(self):
        self.assertIs(keeps([], {}, {}), True)
        self.assertIs(keeps(FACTS, {}, GOOD), True)
        self.assertIs(keeps(FACTS, KEYS, GOOD), True)
        self.assertIs(keeps([], KEYS, KEYED), True)
        self.assertIs(keeps([], KEYS, {"u": 0, "v": 0, "v'": 0}), True)

    def test_more_equal_than_follows(self):
        self.assertTrue(keeps(FACTS, {}, {text: 7 for text in GOOD}))
        self.assertTrue(keeps([], KEYS, {text: 7 for text in KEYED}))
        self.assertTrue(keeps([], {}, {"t": 1, "s": 1, "t.a": 2, "s.b": 3}))

    def test_values_are_integers(self):
        for value in (True, False, None, "3", 3.0, [3], (3,), 3.5):
            self.assertIs(keeps([], {}, {"t": value}), False)
            self.assertIs(keeps(FACTS, {}, {**GOOD, "0": value, "f(t.a)": value}), False)
        for value in (0, -1, 10 ** 50, -(10 ** 50)):
            self.assertIs(keeps([], {}, {"t": value}), True)
            self.assertIs(keeps(FACTS, {}, {**GOOD, "0": value, "f(t.a)": value}), True)

    def test_keys_are_texts_of_terms(self):
        for key in ("", " ", "T", "t ", "t..a", "f()", "f(t)", "key", "abcdefghi", "1", "r[0]", "f(t.a,t.a)",
                    0, None, True, 1.5, ("t",), b"t", read):
            self.assertIs(keeps(FACTS, {}, {**GOOD, key: 9}), False, key)

    def test_parts_are_there(self):
        for text in ("t", "s", "t.a", "s.b"):
            self.assertFalse(keeps(FACTS, {}, without(GOOD, text)), text)
        whole = {"t": 0, "t.a": 1, "g(t.a)": 2, "r[g(t.a)]": 3}
        self.assertTrue(keeps([], {}, whole))
        for text in ("t", "t.a", "g(t.a)"):
            self.assertFalse(keeps([], {}, without(whole, text)), text)
        self.assertFalse(keeps([], {}, {"@t": 0}))
        self.assertFalse(keeps([], {}, {"@t": 0, "t'": 1}))
        self.assertTrue(keeps([], {}, {"@t": 0, "t": 1}))

    def test_both_sides_of_each_fact(self):
        for text in ("f(t.a)", "0"):
            self.assertFalse(keeps(FACTS, {}, without(GOOD, text)), text)
        self.assertFalse(keeps(FACTS, {}, without(GOOD, "f(t.a)", "0")))
        self.assertFalse(keeps(FACTS, {}, {}))
        self.assertTrue(keeps(FACTS[:1], {}, without(GOOD, "f(t.a)", "0")))

    def test_one_number_for_both_sides(self):
        self.assertFalse(keeps(FACTS, {}, {**GOOD, "0": 5}))
        self.assertFalse(keeps(FACTS, {}, {**GOOD, "s.b": 5}))
        self.assertFalse(keeps(FACTS, {}, {**GOOD, "s.b": -3}))

    def test_heads(self):
        self.assertFalse(keeps([], {}, {"t": 1, "s": 1, "t.a": 2, "s.a": 3}))
        self.assertTrue(keeps([], {}, {"t": 1, "s": 2, "t.a": 2, "s.a": 3}))
        self.assertFalse(keeps([], {}, {"t": 1, "t'": 1, "@t": 2, "@t'": 3}))
        self.assertTrue(keeps([], {}, {"t": 1, "t'": 1, "@t": 3, "@t'": 3}))
        base = {"t": 1, "s": 2, "t.a": 3, "s.b": 3, "t.c": 4}
        for one, other in (("f(t.a)", "f(s.b)"), ("r[t.a]", "r[s.b]"), ("f(t.a, t.c)", "f(s.b, t.c)"),
                           ("r[t.c, t.a, s.b]", "r[t.c, s.b, t.a]")):
            self.assertFalse(keeps([], {}, {**base, one: 5, other: 6}), one)
            self.assertTrue(keeps([], {}, {**base, one: 5, other: 5}), one)
        for one, other in (("f(t.a)", "g(s.b)"), ("f(t.a)", "f[s.b]"), ("f(t.a)", "f(t.a, t.a)"),
                           ("f(t.a, t.c)", "f(t.c, s.b)"), ("r[t.a]", "r[t.c]")):
            self.assertTrue(keeps([], {}, {**base, one: 5, other: 6}), one)

    def test_rows_only_the_same_row(self):
        self.assertTrue(keeps([], {}, {"t": 1, "t'": 2, "s": 3}))
        self.assertTrue(keeps([], {}, {"t": 1, "t'": 1, "s": 1, "0": 1}))

    def test_key_columns_are_there(self):
        for text in ("t.k", "t'.k", "t.l", "t'.l"):
            self.assertFalse(keeps([], KEYS, without(KEYED, text)), text)
        self.assertFalse(keeps([], KEYS, {"u": 1, "u'": 2}))
        self.assertFalse(keeps([], KEYS, {"u": 1, "u'": 1}))
        self.assertTrue(keeps([], KEYS, {"u": 1, "u'": 2, "u.j": 3, "u'.j": 4}))
        self.assertTrue(keeps([], {}, {"u": 1, "u'": 2}))
        self.assertTrue(keeps([], KEYS, {"u'": 2, "t": 3}))

    def test_rows_with_equal_key_columns(self):
        alike = {**KEYED, "t'.k": 3}
        self.assertFalse(keeps([], KEYS, alike))
        self.assertTrue(keeps([], {}, alike))
        self.assertTrue(keeps([], {**KEYS, "t": ["k", "l", "m"]}, {**alike, "t.m": 8, "t'.m": 9}))
        self.assertFalse(keeps([], {**KEYS, "t": ["k", "l", "m"]}, {**alike, "t.m": 9, "t'.m": 9}))
        self.assertTrue(keeps([], KEYS, {**alike, "t'": 1}))
        self.assertFalse(keeps([], KEYS, {"u": 1, "u'": 2, "u.j": 3, "u'.j": 3}))
        # Crosswise they are not equal column by column.
        self.assertTrue(keeps([], KEYS, {**KEYED, "t.l": 4, "t'.l": 3}))

    def test_what_is_passed_stays(self):
        facts, keys, numbering = list(FACTS), {"t": ["k"]}, dict(GOOD)
        self.assertTrue(keeps(facts, keys, numbering))
        self.assertEqual((facts, keys, numbering), (FACTS, {"t": ["k"]}, GOOD))

    def test_by_keywords(self):
        self.assertTrue(keeps(facts=FACTS, keys=KEYS, numbering=GOOD))
        self.assertTrue(shows_apart(facts=FACTS, keys=KEYS, numbering=GOOD, left=read("t"), right=read("s")))


class ShowsApart(unittest.TestCase):
    def test_unlike_numbers(self):
        for left, right in pairs("t = s", "t.a = 0", "s.b = f(t.a)", "t = t.a"):
            self.assertIs(shows_apart(FACTS, {}, GOOD, left, right), True)
            self.assertIs(shows_apart(FACTS, {}, GOOD, right, left), True)

    def test_like_numbers(self):
        for left, right in pairs("t.a = s.b", "0 = f(t.a)", "t = t", "0 = 0"):
            self.assertIs(shows_apart(FACTS, {}, GOOD, left, right), False)

    def test_both_terms_are_there(self):
        for left, right in pairs("t = u", "u = t", "t' = s", "f(s.b) = t", "@t = 0", "u = v"):
            self.assertIs(shows_apart(FACTS, {}, GOOD, left, right), False)

    def test_it_must_keep_facts_and_keys(self):
        left, right = read("t"), read("s")
        for wrong in ({**GOOD, "0": 5}, {**GOOD, "t": True}, {**GOOD, "x y": 1}, without(GOOD, "0"),
                      {**GOOD, "f(s.b)": 9}, {**GOOD, 5: 5}):
            self.assertIs(shows_apart(FACTS, {}, wrong, left, right), False)
        self.assertTrue(shows_apart([], KEYS, KEYED, read("t"), read("t'")))
        self.assertFalse(shows_apart([], KEYS, {**KEYED, "t'.k": 3}, read("t"), read("t'")))
        self.assertFalse(shows_apart([], KEYS, without(KEYED, "t.k"), read("t"), read("t'")))


class Numbering(unittest.TestCase):
    def check(self, facts, keys, texts, classes):
        """The classes of the texts, each written with blanks, and no two classes alike."""
        facts = pairs(*facts)
        equalities = Equalities(facts, keys)
        found = equalities.numbering(*reads(*texts))
        self.assertIsInstance(found, dict)
        self.assertTrue(keeps(facts, keys, found))
        groups = [group.split(" ") for group in classes]
        for group in groups:
            self.assertEqual(len({found[text] for text in group}), 1, group)
        self.assertEqual(len({found[group[0]] for group in groups}), len(groups))
        for text, number in found.items():
            self.assertEqual(type(number), int)
            for other in found:
                follows = equalities.follows(read(text), read(other))
                self.assertEqual(number == found[other], follows, f"{text} = {other}")

    def test_without_facts(self):
        self.check([], {}, [], [])
        self.check([], {}, ["r[f(t.a)]", "@t'", "0"], ["t", "t'", "t.a", "f(t.a)", "r[f(t.a)]", "@t'", "0"])
        self.assertEqual(Equalities().numbering(), {})

    def test_facts(self):
        self.check(["t.a = s.b", "u.c = s.b"], {}, ["f(t.a)", "f(u.c)", "t.c"],
                   ["t.a s.b u.c", "f(t.a) f(u.c)", "t", "s", "u", "t.c"])
        self.check(["t = s", "@t = 0"], {}, ["@s", "t.a", "s.a", "@u"], ["t s", "0 @t @s", "t.a s.a", "u", "@u"])

    def test_facts_alone(self):
        self.check(["t.a = f(s.b)", "0 = 0"], {}, [], ["t.a f(s.b)", "s", "t", "s.b", "0"])

    def test_keys(self):
        keys = {"t": ["k", "l"], "s": ["j"]}
        self.check([], keys, ["t", "t'", "s"], ["t", "t'", "t.k", "t.l", "t'.k", "t'.l", "s"])
        self.check(["t.k = t'.k"], keys, ["@t", "@t'"], ["t", "t'", "t.k t'.k", "t.l", "t'.l", "@t", "@t'"])
        self.check(["t.k = t'.k", "t.l = t'.l"], keys, ["@t", "@t'"], ["t t'", "t.k t'.k", "t.l t'.l", "@t @t'"])
        self.check(["t.k = s", "t'.k = s'", "s.j = s'.j", "t.l = t'.l"], keys, [], ["t t'", "s s' t.k t'.k"])
        # A row that only one of the terms has meets the row of a fact.
        self.check(["t.k = v.a", "t.l = 0"], keys, ["t'.z"], ["t", "t'", "t'.k", "t'.l", "v", "t'.z"])

    def test_it_has_what_it_was_asked_for(self):
        equalities = Equalities(pairs("t.a = s.b"))
        terms = reads("r[f(t.a), f(s.b)]", "@t'", "u.c")
        found = equalities.numbering(*terms)
        for term in terms:
            self.assertIn(term.text, found)
        self.assertEqual(found, equalities.numbering(*terms))

    def test_shows_apart_or_derives(self):
        equalities = Equalities(FACTS, KEYS)
        for left, right in pairs("t.a = s.b", "f(s.b) = 0", "t = s", "g(t.a) = g(t.c)", "t.c = t.c", "@t = @t'"):
            steps = equalities.derive(left, right)
            apart = shows_apart(FACTS, KEYS, equalities.numbering(left, right), left, right)
            self.assertEqual(steps is None, apart)
            self.assertEqual(equalities.follows(left, right), not apart)
