"""Names, and the words of the language, which are none."""

import unittest

from splitplans.errors import InvalidTerm
from splitplans.names import WORDS, is_name
from splitplans.terms import Term

LANGUAGE = (
    "table key dealt anyhow copied zero scan where compute equal keep distinct group with count "
    "sum sort own split broadcast gather merge join semi anti union answer in self"
)

NAMES = ["a", "z", "ab", "a1", "a_", "a__b", "orders", "abcdefgh", "z9999999", "q_______"]
NEAR_WORDS = ["keys", "tabl", "tables", "ins", "i", "n", "selfs", "sel", "summ", "on", "zero_", "zero0"]
NO_NAMES = [
    "", " ", "abcdefghi", "A", "Ab", "aB", "abC", "1", "1a", "0", "_", "_a", "a-b", "a.b", "a b",
    " a", "a ", "a'", "a\n", "\na", "a\t", "\u00e9", "a\u00e9", "\u00aa", "a\u0663", "a\u00b2", "\uff41",
]


class Names(unittest.TestCase):
    def test_names(self):
        for name in NAMES + NEAR_WORDS:
            self.assertTrue(is_name(name), name)

    def test_no_names(self):
        for name in NO_NAMES:
            self.assertFalse(is_name(name), name)

    def test_words_are_no_names(self):
        self.assertEqual(list(WORDS), LANGUAGE.split())
        for word in LANGUAGE.split():
            self.assertFalse(is_name(word), word)


class NamesInTexts(unittest.TestCase):
    """Each place of a term at which a name stands takes all names, and nothing else."""

    PLACES = ["{}", "{}'", "@{}", "@{}'", "{}.x", "{}'.x", "a.{}", "a'.{}", "f({}.x)", "f(a.{})",
              "{}(a.x)", "{}[a.x]", "r[{}(a.x)]", "r[a.x, {}'.x]", "f(a.x, a.y, g(b.z, a.{}))"]

    def test_names_are_read(self):
        for place in self.PLACES:
            for name in NAMES + NEAR_WORDS:
                text = place.format(name)
                self.assertEqual(str(Term.read(text)), text)

    def refuse(self, text):
        with self.assertRaises(InvalidTerm, msg=repr(text)) as caught:
            Term.read(text)
        self.assertEqual(caught.exception.text, text)

    def test_words_are_refused(self):
        for place in self.PLACES:
            for word in LANGUAGE.split():
                self.refuse(place.format(word))

    def test_no_names_are_refused(self):
        for place in self.PLACES:
            for name in NO_NAMES:
                text = place.format(name)
                # With these, the text is another term's.
                if text not in ("0", "a.b", "a'", "a'.x", "@a'", "f(a'.x)", "r[a.x, a'.x]"):
                    self.refuse(text)
