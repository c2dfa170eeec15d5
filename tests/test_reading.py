"""Term.read: texts that are a term's, and texts that nearly are."""

import unittest

from splitplans.errors import InputError, InvalidTerm, PlanError
from splitplans.terms import Term, column_term, function_term, place_term, row_term, rule_term, zero_term

from helpers import by_function

WRONG = """
orders..city orders.city. .city orders. orders.city.x orders'city orders.city' orders''.city '
'orders or'ders orders'' orders''' orders.'city orders' . .. a. a'.
@ @@orders @'orders @orders'' @orders.city @orders'.city @0 @' orders@ @orders@ @f(a.b) @r[a.b] '@orders
00 0' -0 +0 1 0.a 0() 0[a.b] 0.0 a.0 0x
f() f'() f(a) f(a') f(@a) f(0) f(a.b f(a.b)) (a.b) f((a.b)) ((a.b)) f(a.b,) f(,a.b) f(,) f(a.b,a.c) f)a.b(
f(a.b)' f'(a.b) f(a.b).c f(a.b)c f(a.b)(a.b) f(a.b)g(a.b) f.g(a.b) a.f(a.b) f(a.f(a.b)) f(f) f(f()) f(g(a.b)
f(r[a.b]) f[a.b) f(a.b] f[a.b](a.b) f(a.b)[a.b] f(a.b[a.b]) f({a.b}) f<a.b> f(a.b))( )f(a.b) (f(a.b))
r[] r[a] r[a'] r[@a] r[0] r[r[a.b]] r[f(r[a.b])] r[a.b r[a.b]] [a.b] r[[a.b]] r[a.b][a.b] r[a.b]' r'[a.b] r[a.b].c
r[a.b,a.c] r[a.b,] r]a.b[ r[f(a.b] r[f(a.b]) r[(a.b)] r.s[a.b] r[f[a.b]] r[a.b]s[a.b] r[f(a.b)]) r[f(a.b))]
( ) [ ] () [] , f f.( f( r[ f) r] @r[a.b]
""".split()

# Those that are rows after all.
WRONG = [text for text in WRONG if text not in ("orders'", "f")]

WRONG_BLANKS = [
    "", " ", "  ", " t", "t ", "t '", "t' ", " t'", "t .a", "t. a", " t.a", "t.a ", "t' .a", "t a",
    "@ t", " @t", "@t ", "@t '", " 0", "0 ", "f (t.a)", "f( t.a)", "f(t.a )", "f(t.a) ", " f(t.a)",
    "f(t.a,  t.b)", "f(t.a , t.b)", "f(t.a t.b)", "f(t.a,t.b)", "f(t.a, )", "f(, t.a)", "f(, )",
    "f(t.a, , t.b)", "f(t.a, t.b, )", "f(t.a ,t.b)", "f(g(t.a),  t.b)", "f(g(t.a),t.b)", "f(g(t.a) , t.b)",
    "r [t.a]", "r[ t.a]", "r[t.a ]", "r[t.a] ", " r[t.a]", "r[t.a,  t.b]", "r[t.a, ]", "r[, t.a]",
    "t.a, t.b", "f(t.a), g(t.a)", "r[t.a], s[t.a]", "t, s", "f(t.a, t.b", "r[t.a, t.b", "f(t.a), t.b)",
    "f(t, t.a)", "f(t.a, t)", "f(t.a, @t)", "f(t.a, 0)", "r[t.a, t']", "r[t.a, s[t.b]]", "r[t.a, 0]",
    "t\n", "\nt", "t.a\n", "f(t.a,\nt.b)", "f(t.a,\tt.b)", "f(t.a,\u00a0t.b)", "t\u2019", "\uff20t",
    "f(t.a, t.b, t.c, t.d)", "r[t.a, t.b, t.c, t.d]", "f(g(t.a, t.b, t.c, t.d))", "r[f(t.a), t.a, t.a, t.a]",
]


def column_of(length):
    """The text of a column with a comma and a blank ahead, 5 to 20 characters in all."""
    letters = length - 3
    if letters == 17:
        return ", abcdefgh'.abcdefgh"
    return ", " + "a" * (letters // 2) + "." + "b" * (letters - letters // 2)


def long_text(length):
    """The text of a rule with 10 brackets open at once, of just this length."""
    missing = length - len("r[" + "f(" * 9 + "t.a" + ")" * 9 + "]")
    sizes = []
    while missing:
        size = min(20, missing)
        if 0 < missing - size < 5:
            size -= 5
        sizes.append(size)
        missing -= size
    text = "t.a"
    for level in range(10):
        more = "".join(column_of(size) for size in sizes[2 * level:2 * level + 2])
        text = f"f({text}{more})" if level < 9 else f"r[{text}{more}]"
    return text


class Right(unittest.TestCase):
    def test_each_kind(self):
        for term, text in by_function():
            found = Term.read(text)
            self.assertEqual(found, term)
            self.assertEqual(found.text, text)
            self.assertEqual((found.kind, found.name, found.marked), (term.kind, term.name, term.marked))
            self.assertEqual(found.parts, term.parts)
            self.assertEqual(found.depth, term.depth)
            self.assertEqual(found.second(), term.second())

    def test_off_an_object(self):
        self.assertEqual(zero_term().read("t'"), row_term("t", True))

    def test_shapes(self):
        a, b = column_term("t", "a"), column_term("s", "b", True)
        cases = {
            "@t'": place_term("t", True),
            "f(t.a, s'.b, t.a)": function_term("f", a, b, a),
            "f(g(t.a), s'.b)": function_term("f", function_term("g", a), b),
            "f(t.a, g(s'.b, t.a), s'.b)": function_term("f", a, function_term("g", b, a), b),
            "f(f(f(t.a), t.a), f(s'.b))": function_term(
                "f", function_term("f", function_term("f", a), a), function_term("f", b)),
            "r[f(t.a, s'.b), g(t.a)]": rule_term("r", function_term("f", a, b), function_term("g", a)),
        }
        for text, term in cases.items():
            found = Term.read(text)
            self.assertEqual(found, term)
            self.assertEqual([str(each) for each in found.subterms()], [str(each) for each in term.subterms()])
            self.assertEqual([part.kind for part in found.parts], [part.kind for part in term.parts])

    def test_long_texts_with_many_brackets(self):
        for length in (60, 200, 399, 400, 401, 420):
            text = long_text(length)
            self.assertEqual(len(text), length)
            found = Term.read(text)
            self.assertEqual(found.text, text)
            self.assertEqual(found.depth, 12)
            with self.assertRaises(InvalidTerm):
                Term.read(text[:-1])
            with self.assertRaises(InvalidTerm):
                Term.read(text.replace(")", "", 1))

    def test_somewhat_more_brackets(self):
        for many in (9, 10, 11, 14, 40):
            text = "f(" * many + "t.a" + ")" * many
            self.assertEqual(Term.read(text).depth, many + 2)
            for wrong in (text + ")", "f(" + text, text.replace("t.a", "t"), text.replace("t.a", "")):
                with self.assertRaises(InvalidTerm):
                    Term.read(wrong)


class Wrong(unittest.TestCase):
    def refuse(self, text):
        with self.assertRaises(InvalidTerm, msg=repr(text)) as caught:
            Term.read(text)
        self.assertEqual(caught.exception.text, text)
        self.assertIsInstance(caught.exception, InputError)
        self.assertIsInstance(caught.exception, PlanError)

    def test_nearly_a_term(self):
        for text in WRONG:
            self.refuse(text)

    def test_blanks_and_parts(self):
        for text in WRONG_BLANKS:
            self.refuse(text)

    def test_open_brackets_only(self):
        for text in ("f(" * 10, "f(" * 200, "(" * 400, ")" * 400, "r[" * 10, "f(" * 10 + "t.a"):
            self.refuse(text)

    def test_each_change_of_one_character(self):
        """A text with one character less, more or other is refused, or is a term's itself."""
        for _, text in by_function():
            for at in range(len(text) + 1):
                for sign in "a0_ .,'@()[]Z\n":
                    changed = [text[:at] + sign + text[at:], text[:at] + text[at + 1:],
                               text[:at] + sign + text[at + 1:]]
                    for each in changed:
                        try:
                            self.assertEqual(Term.read(each).text, each)
                        except InvalidTerm as error:
                            self.assertEqual(error.text, each)
