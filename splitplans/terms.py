"""Terms: rows, columns, places, worker 0, functions and rules; and their texts."""

from splitplans.errors import InvalidTerm
from splitplans.names import is_name

MOST_PARTS = 3


class Term:
    """A term of one of the kinds row, column, place, zero, function, rule."""

    def __init__(self, kind, name, parts, marked=False):
        self.kind = kind
        self.name = name
        self.parts = list(parts)
        self.marked = kind == "row" and bool(marked)
        self.text = _text_of(kind, name, [part.text for part in self.parts], self.marked)
        self._depth = 1 + max([part.depth for part in self.parts], default=0)

    @classmethod
    def read(cls, text):
        """The term that has this text; raises InvalidTerm if none has it."""
        term = _read_term(text)
        if term is None:
            raise InvalidTerm(text)
        return term

    @property
    def depth(self):
        """1 for a row and for zero, otherwise 1 more than the deepest part."""
        return self._depth

    def second(self):
        """The term in which every row is marked."""
        return Term(self.kind, self.name, [part.second() for part in self.parts], True)

    def row_names(self):
        """The texts of the term's rows, ascending, each once."""
        return sorted([term.text for term in self.subterms() if term.kind == "row"])

    def subterms(self):
        """Yields those of the parts, in order, and then the term itself, each text once."""
        found = {}
        _find_subterms(self, found)
        yield from list(found.values())

    def __eq__(self, other):
        return isinstance(other, Term) and self.text == other.text

    def __str__(self):
        return str(self.text)


def row_term(table, marked=False):
    """The row of a table, or its marked row."""
    return Term("row", table, [], marked)


def column_term(table, name, marked=False):
    """A column of the row of a table."""
    return Term("column", name, [row_term(table, marked)])


def place_term(table, marked=False):
    """The worker at which the row of a table lies."""
    return Term("place", "", [row_term(table, marked)])


def zero_term():
    """Worker 0."""
    return Term("zero", "", [])


def function_term(name, *parts):
    """A function of 1 to 3 columns and functions."""
    return Term("function", name, parts)


def rule_term(name, *parts):
    """The worker that a rule gives for 1 to 3 columns and functions."""
    return Term("rule", name, parts)


def head_of(term):
    """The head: two terms that have the same one differ in their parts only."""
    return (term.kind, term.name, len(term.parts), term.marked)


def _text_of(kind, name, parts, marked):
    if kind == "row":
        return f"{name}'" if marked else name
    if kind == "column":
        return f"{parts[0]}.{name}"
    if kind == "place":
        return f"@{parts[0]}"
    if kind == "zero":
        return "0"
    inside = ", ".join(parts)
    return f"{name}({inside})" if kind == "function" else f"{name}[{inside}]"


def _find_subterms(term, found):
    """Put the subterms into the dict, by their texts, parts before the whole."""
    if term.text in found:
        return
    for part in term.parts:
        _find_subterms(part, found)
    found[term.text] = term


def _read_term(text):
    """The term of any kind that has the text, or None."""
    if text == "0":
        return zero_term()
    if text.startswith("@"):
        row = _read_row(text[1:])
        return None if row is None else Term("place", "", [row])
    if "[" in text:
        return _read_call(text, "rule", "[", "]")
    if "." in text:
        return _read_value(text)
    return _read_row(text)


def _read_row(text):
    marked = text.endswith("'")
    name = text[:-1] if marked else text
    return row_term(name, marked) if is_name(name) else None


def _read_value(text):
    """The column or function term that has the text, or None."""
    if "(" in text:
        return _read_call(text, "function", "(", ")")
    before, _, name = text.partition(".")
    row = _read_row(before)
    return None if row is None or not is_name(name) else Term("column", name, [row])


def _read_call(text, kind, opening, closing):
    """The term of a name and of parts between two brackets, or None."""
    name, _, rest = text.partition(opening)
    if not is_name(name) or not rest.endswith(closing):
        return None
    parts = [_read_value(piece) for piece in _pieces(rest[:-1])]
    if len(parts) > MOST_PARTS or None in parts:
        return None
    return Term(kind, name, parts)


def _pieces(text):
    """The text, parted at each comma and blank that stand in no bracket."""
    pieces = []
    start = 0
    still_open = 0
    for at in range(len(text)):
        if text[at] == "(":
            still_open += 1
        elif text[at] == ")":
            still_open -= 1
        elif still_open == 0 and text[at:at + 2] == ", ":
            pieces.append(text[start:at])
            start = at + 2
    pieces.append(text[start:])
    return pieces
