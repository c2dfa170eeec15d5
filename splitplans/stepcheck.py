"""The looker: whether derivations and numberings show what they are said to show.

It takes nothing from the files that make them, so that a fault there is seen here.
"""

from splitplans.errors import InvalidTerm
from splitplans.terms import MOST_PARTS, Term, column_term, head_of, row_term

# How many items the step of each word has, the word among them.
LENGTHS = {"fact": 2, "self": 2, "turn": 2, "join": 3, "apply": 4, "key": 3}


def shows_same(facts, keys, steps, left, right):
    """Whether the list of steps is a derivation of left = right from the facts and keys."""
    if not isinstance(steps, list) or len(steps) == 0:
        return False
    stated = []
    for step in steps:
        pair = _stated_by(facts, keys, stated, step)
        if pair is None:
            return False
        stated.append(pair)
    return stated[-1] == (left, right)


def keeps(facts, keys, numbering):
    """Whether the dict is a numbering that keeps the facts and keys."""
    terms = _terms_of(numbering)
    if terms is None:
        return False
    whole = _has_parts(terms, numbering) and _has_facts(facts, numbering)
    return whole and _keeps_heads(terms, numbering) and _keeps_keys(keys, numbering)


def shows_apart(facts, keys, numbering, left, right):
    """Whether the numbering shows that left = right does not follow from the facts and keys."""
    if not keeps(facts, keys, numbering):
        return False
    if left.text not in numbering or right.text not in numbering:
        return False
    return numbering[left.text] != numbering[right.text]


def _is_integer(thing):
    return isinstance(thing, int) and not isinstance(thing, bool)


def _item(things, at):
    """The item at this position, or None if it is no position."""
    return things[at] if _is_integer(at) and 0 <= at < len(things) else None


def _is_term(thing):
    """Whether this is a term of one of the kinds, with the parts that its kind has."""
    if not isinstance(thing, Term) or not all([_is_term(part) for part in thing.parts]):
        return False
    kinds = [part.kind for part in thing.parts]
    if thing.kind in ("row", "zero"):
        return kinds == []
    if thing.kind in ("column", "place"):
        return kinds == ["row"]
    values = [kind for kind in kinds if kind in ("column", "function")]
    return thing.kind in ("function", "rule") and values == kinds and 1 <= len(kinds) <= MOST_PARTS


def _stated_by(facts, keys, stated, step):
    """The pair that a step states behind the pairs of the steps before it, or None."""
    if not isinstance(step, tuple) or len(step) == 0 or not isinstance(step[0], str):
        return None
    word = step[0]
    if LENGTHS.get(word) != len(step):
        return None
    if word == "fact":
        return _item(facts, step[1])
    if word == "self":
        return (step[1], step[1]) if _is_term(step[1]) else None
    if word == "turn":
        pair = _item(stated, step[1])
        return None if pair is None else (pair[1], pair[0])
    if word == "join":
        return _joined(_item(stated, step[1]), _item(stated, step[2]))
    if word == "apply":
        return _applied(stated, step[1], step[2], step[3])
    return _keyed(keys, stated, step[1], step[2])


def _joined(first, then):
    if first is None or then is None or first[1] != then[0]:
        return None
    return (first[0], then[1])


def _applied(stated, left, right, numbers):
    if not _is_term(left) or not _is_term(right) or left.kind in ("row", "zero"):
        return None
    if head_of(left) != head_of(right):
        return None
    pairs = list(zip(left.parts, right.parts))
    return (left, right) if _all_stated(stated, numbers, pairs) else None


def _keyed(keys, stated, table, numbers):
    if not isinstance(table, str) or table not in keys:
        return None
    pairs = [(column_term(table, name), column_term(table, name, True)) for name in keys[table]]
    return (row_term(table), row_term(table, True)) if _all_stated(stated, numbers, pairs) else None


def _all_stated(stated, numbers, pairs):
    """Whether the numbers are a list of steps that state these pairs, one each, in order."""
    return isinstance(numbers, list) and [_item(stated, number) for number in numbers] == pairs


def _terms_of(numbering):
    """The terms whose texts are the keys; None if a key is no such text, a value no integer."""
    terms = []
    for text in numbering:
        if not isinstance(text, str) or not _is_integer(numbering[text]):
            return None
        try:
            terms.append(Term.read(text))
        except InvalidTerm:
            return None
    return terms


def _has_parts(terms, numbering):
    return all([part.text in numbering for term in terms for part in term.parts])


def _has_facts(facts, numbering):
    """Whether both sides of each fact are there, with one number."""
    for left, right in facts:
        if left.text not in numbering or right.text not in numbering:
            return False
        if numbering[left.text] != numbering[right.text]:
            return False
    return True


def _keeps_heads(terms, numbering):
    """Whether terms with one head and parts of the same numbers have the same number."""
    known = {}
    for term in terms:
        parts = tuple([numbering[part.text] for part in term.parts])
        number = numbering[term.text]
        # Without parts, two terms of one head are one term.
        if known.setdefault(head_of(term) + parts, number) != number:
            return False
    return True


def _keeps_keys(keys, numbering):
    return all([_keeps_key(table, keys[table], numbering) for table in keys])


def _keeps_key(table, names, numbering):
    """Whether both rows, if they are there, have their key columns, and are one if these are."""
    if row_term(table).text not in numbering or row_term(table, True).text not in numbering:
        return True
    columns = [column_term(table, name).text for name in names]
    marked = [column_term(table, name, True).text for name in names]
    if not all([text in numbering for text in columns + marked]):
        return False
    if [numbering[text] for text in columns] != [numbering[text] for text in marked]:
        return True
    return numbering[row_term(table).text] == numbering[row_term(table, True).text]
