"""Why the two rows of a claim come in the promised order, or how they can come in another one."""

from splitplans.equalities import Equalities
from splitplans.rowpairs import column_pairs, identity_pairs, telling_columns
from splitplans.stories import Story
from splitplans.terms import zero_term


class Breach:
    """What is to be so in a world for the two rows to come in the wrong order.

    alike are pairs of equal terms; rising are pairs of terms, of which the left one is to have
    the lesser value; apart is a pair of terms that are to name unlike workers, or None; early
    is the exchange that is to bring the first story's row first, 0 if none is.
    """

    def __init__(self, alike, rising, apart, early):
        self.alike = alike
        self.rising = rising
        self.apart = apart
        self.early = early


class Asker:
    """Asks of one claim whether it holds: for its case, or for the breach where there is none."""

    def __init__(self, plan, known, first, second, index):
        self.breach = None
        self._plan = plan
        self._known = known
        self._first = Story(plan, first)
        self._second = Story(plan, second)
        self._keys = self._first.table_keys()
        self._told = column_pairs(self._first, self._second, len(plan), [plan.order[index]])[0]

    def case(self, facts):
        """The case that shows that the claim holds, or None, and then there is a breach."""
        return self._ask(len(self._plan), Equalities(facts, self._keys))

    def _ask(self, number, equalities):
        left, right = self._told
        same = equalities.derive(left, right)
        if same is not None:
            return ("equal", same)
        ones = self._derive_one(number, equalities)
        if ones is not None:
            return ("one", ones)
        kind = self._plan[number].kind
        if kind == "scan":
            return self._break(equalities, True)
        if kind == "union":
            return self._ask_union(number, equalities)
        if kind == "join":
            return self._ask_join(number, equalities)
        if kind in ("sort", "group", "distinct"):
            return self._ask_arranged(number, equalities)
        if kind in ("split", "broadcast", "gather"):
            return self._ask_exchange(number, equalities)
        if kind == "merge":
            return self._ask_merge(number, equalities)
        return self._within("pass", self._plan.inputs_of(number)[0], equalities)

    def _ask_union(self, number, equalities):
        source = self._first.followed(number)
        if source != self._second.followed(number):
            return self._break(equalities, source == self._plan.inputs_of(number)[0])
        return self._within("pass", source, equalities)

    def _ask_join(self, number, equalities):
        left, right = self._plan.inputs_of(number)
        ones = self._derive_one(left, equalities)
        if ones is None:
            return self._within("left", left, equalities)
        case = self._ask(right, equalities)
        return None if case is None else ("right", ones, case)

    def _ask_arranged(self, number, equalities):
        ties = self._derive_ties(number, equalities)
        if len(ties) < len(telling_columns(self._plan[number])):
            return self._ask_by(number, equalities, ties, None)
        # Rows of a group or a distinct that agree in all these columns are one.
        case = self._ask(self._plan.inputs_of(number)[0], equalities)
        return None if case is None else ("ties", ties, case)

    def _ask_by(self, number, equalities, ties, apart):
        """The case of the first column that the ties leave open."""
        column = telling_columns(self._plan[number])[len(ties)]
        pair = column_pairs(self._first, self._second, number, [column])[0]
        first = equalities.derive(pair[0], self._told[0])
        second = equalities.derive(pair[1], self._told[1])
        if first is None or second is None:
            return self._break(equalities, True, [pair], apart)
        return ("by", len(ties), ties, (first, second))

    def _ask_exchange(self, number, equalities):
        left, right = self._senders(number)
        same = None
        if left is not None and right is not None:
            same = equalities.derive(left, right)
        if same is None:
            return self._break(equalities, True, [], (left, right), number)
        case = self._ask(self._plan.inputs_of(number)[0], equalities)
        return None if case is None else ("sender", same, case)

    def _ask_merge(self, number, equalities):
        left, right = self._senders(number)
        if left is None or right is None or equalities.follows(left, right):
            return self._ask_exchange(number, equalities)
        with_one_sender = Equalities(equalities.facts + [(left, right)], self._keys)
        case = self._ask(self._plan.inputs_of(number)[0], with_one_sender)
        if case is None:
            return None
        ties = self._derive_ties(number, equalities)
        if len(ties) == len(telling_columns(self._plan[number])):
            # The lower sender comes first: the first story's, if the other one need not be 0.
            return self._break(equalities, not equalities.follows(right, zero_term()), [], (left, right))
        by_columns = self._ask_by(number, equalities, ties, (left, right))
        return None if by_columns is None else ("both", case, by_columns)

    def _within(self, word, source, equalities):
        case = self._ask(source, equalities)
        return None if case is None else (word, case)

    def _senders(self, number):
        """The terms of the workers from which an exchange takes the two rows; None: from each."""
        source = self._plan.inputs_of(number)[0]
        left = self._known[source, self._first.choice].term
        right = self._known[source, self._second.choice].term
        return (left, None if right is None else right.second())

    def _derive_one(self, number, equalities):
        """Derivations of all that makes the step's two rows one, or None."""
        pairs = identity_pairs(self._plan, self._first, self._second, number)
        if pairs is None or not all([equalities.follows(left, right) for left, right in pairs]):
            return None
        return [equalities.derive(left, right) for left, right in pairs]

    def _derive_ties(self, number, equalities):
        """A derivation for each of the telling columns before the first one that may be unlike."""
        pairs = column_pairs(self._first, self._second, number, telling_columns(self._plan[number]))
        ties = []
        for left, right in pairs:
            if not equalities.follows(left, right):
                return ties
            ties.append(equalities.derive(left, right))
        return ties

    def _break(self, equalities, first_early, rising=(), apart=None, early=0):
        """Note the breach, that the row that comes first has the greater value; there is no case."""
        left, right = self._told
        falling = (right, left) if first_early else (left, right)
        self.breach = Breach(equalities.facts, [*rising, falling], apart, early)
        return None
