"""The looker of cases: whether a case shows that a claim holds.

It asks for no more than a case says, and for all of that. What is no case of the wanted form
shows nothing, whatever it is.
"""

from splitplans.orders import claim_facts
from splitplans.rowpairs import column_pairs, identity_pairs, telling_columns
from splitplans.stepcheck import shows_same
from splitplans.stories import Story
from splitplans.values import is_integer

# How many items the case of each word has, the word among them.
LENGTHS = {"equal": 2, "one": 2, "pass": 2, "ties": 3, "right": 3, "left": 2, "by": 4, "sender": 3, "both": 3}
PASSING = ("where", "compute", "equal", "keep", "own", "semi", "anti", "union")
ARRANGED = ("sort", "group", "distinct")


class CaseLooker:
    """Looks at cases of one claim; states are those of the plan, by number and choice."""

    def __init__(self, plan, states, first, second, index):
        self._plan = plan
        self._states = states
        self._first = Story(plan, first)
        self._second = Story(plan, second)
        self._keys = self._first.table_keys()
        self._facts = claim_facts(plan, first, second, index)
        self._told = column_pairs(self._first, self._second, len(plan), [plan.order[index]])[0]

    def takes(self, case):
        """Whether the case shows that the claim holds."""
        return self._takes(case, len(self._plan), self._facts, True)

    def _takes(self, case, number, facts, may_be_one):
        """Whether a case of a step is right. Below a left case the rows are not one."""
        if not _has_form(case):
            return False
        word = case[0]
        if word == "equal":
            return self._shows(facts, case[1], self._told)
        if word == "one":
            return may_be_one and self._shows_one(facts, case[1], number)
        kind = self._plan[number].kind
        sources = self._plan.inputs_of(number)
        if word == "pass":
            source = self._passed(number)
            return source != 0 and self._takes(case[1], source, facts, may_be_one)
        if word == "left":
            return kind == "join" and self._takes(case[1], sources[0], facts, False)
        if word == "right":
            shown = kind == "join" and self._shows_one(facts, case[1], sources[0])
            return shown and self._takes(case[2], sources[1], facts, may_be_one)
        if word == "ties":
            shown = kind == "sort" and self._shows_all(facts, case[1], self._pairs_at(number))
            return shown and self._takes(case[2], sources[0], facts, may_be_one)
        if word == "by":
            return kind in ARRANGED and self._takes_by(case, number, facts)
        senders = self._senders(number)
        if senders is None:
            return False
        if word == "sender":
            return self._shows(facts, case[1], senders) and self._takes(case[2], sources[0], facts, may_be_one)
        return kind == "merge" and self._takes_both(case, number, facts + [senders], facts, may_be_one)

    def _takes_both(self, case, number, with_one_sender, facts, may_be_one):
        """Whether a merge keeps the order of one sender's rows, and its columns tell of two."""
        source = self._plan.inputs_of(number)[0]
        if not _has_form(case[2]) or case[2][0] != "by" or not self._takes_by(case[2], number, facts):
            return False
        return self._takes(case[1], source, with_one_sender, may_be_one)

    def _takes_by(self, case, number, facts):
        """Whether a column behind others that are equal is the claim's own column in both rows."""
        _, at, ties, told = case
        pairs = self._pairs_at(number)
        if not is_integer(at) or not 0 <= at < len(pairs) or not isinstance(told, tuple):
            return False
        wanted = list(zip(pairs[at], self._told))
        return self._shows_all(facts, ties, pairs[:at]) and self._shows_all(facts, list(told), wanted)

    def _passed(self, number):
        """The input that is asked with the same facts, 0 if none is."""
        kind = self._plan[number].kind
        if kind not in PASSING:
            return 0
        if kind != "union":
            return self._plan.inputs_of(number)[0]
        source = self._first.followed(number)
        return source if source == self._second.followed(number) else 0

    def _senders(self, number):
        """The terms of the workers from which an exchange takes the rows, None if there are none."""
        if number not in self._plan.exchanges:
            return None
        source = self._plan.inputs_of(number)[0]
        left = self._states[source, self._first.choice].term
        right = self._states[source, self._second.choice].term
        return None if left is None or right is None else (left, right.second())

    def _pairs_at(self, number):
        """The pairs of terms of the columns that arrange a step's rows."""
        return column_pairs(self._first, self._second, number, telling_columns(self._plan[number]))

    def _shows(self, facts, steps, pair):
        left, right = pair
        return shows_same(facts, self._keys, steps, left, right)

    def _shows_all(self, facts, derivations, pairs):
        """Whether there is a list of derivations, one for each pair."""
        if not isinstance(derivations, list) or len(derivations) != len(pairs):
            return False
        return all([self._shows(facts, steps, pair) for steps, pair in zip(derivations, pairs)])

    def _shows_one(self, facts, derivations, number):
        pairs = identity_pairs(self._plan, self._first, self._second, number)
        return pairs is not None and self._shows_all(facts, derivations, pairs)


def _has_form(case):
    """Whether this is a tuple that begins with a word of cases and is as long as that asks."""
    if not isinstance(case, tuple) or len(case) == 0 or not isinstance(case[0], str):
        return False
    return LENGTHS.get(case[0]) == len(case)
