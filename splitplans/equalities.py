"""Equalities of terms: just what follows from facts and keys."""

from splitplans.closure import Closure
from splitplans.derivations import derivation
from splitplans.terms import column_term, row_term


class Equalities:
    """Facts, which are pairs of terms that are equal, and keys of tables."""

    def __init__(self, facts=(), keys=None):
        self._facts = []
        self._keys = {} if keys is None else {table: list(keys[table]) for table in keys}
        self._closure = Closure(self._keys)
        for left, right in facts:
            self.learn(left, right)

    def learn(self, left, right):
        """Add the fact left = right and return its number."""
        number = len(self._facts)
        self._facts.append((left, right))
        self._closure.assume(left, right, number)
        return number

    def follows(self, left, right):
        """Whether left = right follows from the facts and keys."""
        return self._closure.are_equal(left, right)

    def suppose(self, pairs, left, right):
        """Whether left = right follows if these pairs are facts, too."""
        return Equalities(self._facts + list(pairs), self._keys).follows(left, right)

    def derive(self, left, right):
        """A derivation of left = right, or None if it does not follow."""
        if not self.follows(left, right):
            return None
        closure = self._closure
        return derivation(closure, closure.number_of(left), closure.number_of(right))

    def numbering(self, *terms):
        """A numbering that has these terms and gives only equal ones one number."""
        taken = self._with_parts(terms)
        leaders = [self._closure.leader_of(term) for term in taken]
        numbers = {}
        for leader in leaders:
            numbers.setdefault(leader, len(numbers))
        return {term.text: numbers[leader] for term, leader in zip(taken, leaders)}

    @property
    def facts(self):
        """The pairs, in the order in which they were passed or learned."""
        return list(self._facts)

    def __len__(self):
        return len(self._facts)

    def _with_parts(self, terms):
        """All terms that a numbering of these terms must have, each once."""
        wholes = [term for fact in self._facts for term in fact] + list(terms)
        found = {term.text: term for whole in wholes for term in whole.subterms()}
        for table in self._keys:
            if row_term(table).text in found and row_term(table, True).text in found:
                for marked in (False, True):
                    for name in self._keys[table]:
                        column = column_term(table, name, marked)
                        found[column.text] = column
        for term in list(found.values()):
            self._closure.number_of(term)
        return list(found.values())
