"""Terms: kinds, texts, equality, depth, second(), row_names(), subterms()."""

import inspect
import unittest

from splitplans.terms import (
    Term, column_term, function_term, head_of, place_term, row_term, rule_term, zero_term,
)

from helpers import by_function, read


def tower(height):
    """A term of this depth: a rule over functions over a column."""
    term = column_term("t", "a")
    for _ in range(height - 3):
        term = function_term("f", term)
    return rule_term("r", term)


class Kinds(unittest.TestCase):
    def test_texts(self):
        for term, text in by_function():
            self.assertEqual(term.text, text)
            self.assertEqual(str(term), text)

    def test_attributes(self):
        row = row_term("orders")
        city = column_term("orders", "city")
        cases = [
            (row, "row", "orders", []),
            (row_term("orders", True), "row", "orders", []),
            (city, "column", "city", [row]),
            (place_term("orders"), "place", "", [row]),
            (zero_term(), "zero", "", []),
            (function_term("f", city, city), "function", "f", [city, city]),
            (rule_term("r", city), "rule", "r", [city]),
        ]
        for term, kind, name, parts in cases:
            self.assertEqual((term.kind, term.name, term.parts), (kind, name, parts))
            self.assertIsInstance(term.parts, list)

    def test_marked_is_true_for_marked_rows_alone(self):
        for term, text in by_function():
            self.assertIs(term.marked, text == "orders'", text)
        self.assertIs(column_term("t", "a", True).parts[0].marked, True)
        self.assertIs(place_term("t", True).parts[0].marked, True)
        self.assertIs(place_term("t", False).parts[0].marked, False)
        self.assertIs(Term("column", "a", [row_term("t", True)], True).marked, False)

    def test_by_the_class(self):
        for term, text in by_function():
            made = Term(term.kind, term.name, term.parts, term.marked)
            self.assertEqual(made, term)
            self.assertEqual((made.text, made.depth, made.marked), (text, term.depth, term.marked))
        self.assertEqual(Term("row", "t", []).text, "t")
        self.assertEqual(Term("row", "t", [], marked=True).text, "t'")
        self.assertEqual(Term(kind="row", name="t", parts=[], marked=False).text, "t")

    def test_by_keywords(self):
        self.assertEqual(row_term(table="t", marked=True).text, "t'")
        self.assertEqual(column_term(table="t", name="a", marked=True).text, "t'.a")
        self.assertEqual(place_term(table="t", marked=True).text, "@t'")

    def test_the_example(self):
        term = rule_term("r", column_term("orders", "id"),
                         function_term("f", column_term("orders", "day")))
        told = [str(term), term.depth, str(term.second())]
        self.assertEqual(told, ["r[orders.id, f(orders.day)]", 4, "r[orders'.id, f(orders'.day)]"])


class Equal(unittest.TestCase):
    def test_equal_by_text(self):
        made = by_function()
        for at, (one, _) in enumerate(made):
            for other_at, (other, _) in enumerate(by_function()):
                self.assertEqual(one == other, at == other_at)
                self.assertEqual(one != other, at != other_at)

    def test_equal_to_no_other_thing(self):
        class Alike:
            text = "t"
            kind = "row"

        for thing in ("t", 0, None, [], ("t",), {"text": "t"}, Alike(), True):
            self.assertFalse(row_term("t") == thing)
            self.assertTrue(row_term("t") != thing)
        self.assertFalse(zero_term() == 0)
        self.assertFalse(zero_term() == "0")

    def test_kinds_with_one_name(self):
        part = column_term("f", "f")
        made = [row_term("f"), row_term("f", True), part, function_term("f", part), rule_term("f", part)]
        for at, one in enumerate(made):
            self.assertEqual([one == other for other in made].index(True), at)

    def test_heads(self):
        x, y = column_term("t", "x"), column_term("s", "y")
        same = [
            (x, column_term("s", "x", True)),
            (place_term("t"), place_term("s")),
            (zero_term(), zero_term()),
            (function_term("f", x), function_term("f", y)),
            (rule_term("r", x, x), rule_term("r", y, x)),
            (row_term("t", True), row_term("t", True)),
        ]
        unlike = [
            (x, y),
            (row_term("t"), row_term("t", True)),
            (row_term("t"), row_term("s")),
            (function_term("f", x), function_term("f", x, x)),
            (function_term("f", x), function_term("g", x)),
            (function_term("f", x), rule_term("f", x)),
            (zero_term(), place_term("t")),
        ]
        for one, other in same:
            self.assertEqual(head_of(one), head_of(other))
        for one, other in unlike:
            self.assertNotEqual(head_of(one), head_of(other))


class Depth(unittest.TestCase):
    def test_of_each_kind(self):
        depths = [1, 1, 2, 2, 2, 2, 1, 3, 4, 5, 3, 5, 3]
        self.assertEqual([term.depth for term, _ in by_function()], depths)

    def test_of_the_deepest_part(self):
        shallow, deep = column_term("t", "a"), tower(7).parts[0]
        for parts in ([shallow, deep], [deep, shallow], [shallow, deep, shallow]):
            self.assertEqual(function_term("g", *parts).depth, 7)

    def test_ten_deep_and_somewhat_deeper(self):
        for height in (3, 9, 10, 11, 15):
            term = tower(height)
            self.assertEqual(term.depth, height)
            self.assertEqual(term.text, "r[" + "f(" * (height - 3) + "t.a" + ")" * (height - 3) + "]")
            self.assertEqual(read(term.text), term)
            self.assertEqual(len(list(term.subterms())), height)

    def test_a_property(self):
        with self.assertRaises(AttributeError):
            zero_term().depth = 3


class Second(unittest.TestCase):
    def test_every_row_is_marked(self):
        for term, text in by_function():
            marked = text.replace("orders'", "orders").replace("orders", "orders'")
            second = term.second()
            self.assertEqual(second.text, marked)
            self.assertEqual((second.kind, second.name, second.depth), (term.kind, term.name, term.depth))
            self.assertEqual(second.second(), second)
            self.assertEqual(second.marked, term.kind == "row")
            self.assertEqual(term.text, text)

    def test_ten_deep(self):
        self.assertEqual(tower(10).second().text, "r[f(f(f(f(f(f(f(t'.a)))))))]")
        self.assertEqual(tower(10).second().depth, 10)


class Rows(unittest.TestCase):
    def test_row_names(self):
        cases = {
            "t": ["t"],
            "t'": ["t'"],
            "@t'": ["t'"],
            "t.a": ["t"],
            "0": [],
            "f(t.a, t'.a, s.b)": ["s", "t", "t'"],
            "r[t.a, f(t.b), f(t.a)]": ["t"],
            "r[tb.a, t'.a, f(ta.c, t.a)]": ["t", "t'", "ta", "tb"],
        }
        for text, names in cases.items():
            self.assertEqual(read(text).row_names(), names)


class Subterms(unittest.TestCase):
    def test_order(self):
        cases = {
            "t": ["t"],
            "0": ["0"],
            "@t'": ["t'", "@t'"],
            "t.a": ["t", "t.a"],
            "f(t.a)": ["t", "t.a", "f(t.a)"],
            "r[s.b, f(t.a, s.b), t'.a]": [
                "s", "s.b", "t", "t.a", "f(t.a, s.b)", "t'", "t'.a", "r[s.b, f(t.a, s.b), t'.a]"],
            "f(g(t.a), t.a, g(t.a))": ["t", "t.a", "g(t.a)", "f(g(t.a), t.a, g(t.a))"],
        }
        for text, texts in cases.items():
            self.assertEqual([term.text for term in read(text).subterms()], texts)

    def test_a_generator(self):
        self.assertTrue(inspect.isgenerator(read("t.a").subterms()))
        for term in read("f(t.a)").subterms():
            self.assertIsInstance(term, Term)
