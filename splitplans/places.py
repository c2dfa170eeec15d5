"""At which workers the rows of a story lie, and where a plan fails for that."""

from splitplans.equalities import Equalities
from splitplans.needs import SET, collapsed, collapses, needs
from splitplans.stories import Story, choices, fitting, pair_facts
from splitplans.terms import column_term, place_term, rule_term, zero_term


class State:
    """At the worker that a term names, or everywhere, perhaps with wants: pairs (anti, term)."""

    def __init__(self, term=None, wants=()):
        self.term = term
        self.wants = tuple([(anti, wanted) for anti, wanted in wants])
        self.text = _text_of(term, self.wants)

    def __eq__(self, other):
        return isinstance(other, State) and self.text == other.text

    def __str__(self):
        return str(self.text)


class Failure:
    """Why a plan is not right: lost, copies, junk or apart, at a step or at the answer."""

    def __init__(self, kind, rank, number, choice, *, at_end=False, anti=0, other=None, left=None, right=None):
        self.kind = kind
        self.rank = rank
        self.number = number
        self.choice = choice
        self.at_end = at_end
        self.anti = anti
        self.other = other
        self.left = left
        self.right = right


def states(plan):
    """The state of each step in each choice that meets it, by number and choice."""
    found = {}
    for walk in _walks(plan):
        for number in walk.known:
            found[number, walk.choice] = walk.known[number]
    return found


def failures(plan):
    """All failures of the plan, the first one first."""
    walks = _walks(plan)
    found = [failure for walk in walks for failure in walk.noted] + _apart(plan, walks)
    return sorted(found, key=_order_of)


def _order_of(failure):
    # Within one rank, a step and choice at which something is lost has no other failure.
    other = () if failure.other is None else failure.other
    return (failure.rank, failure.number, failure.at_end, failure.choice, failure.anti, other)


def _walks(plan):
    return [Walk(plan, choice) for choice in choices(plan)]


class Walk:
    """A way through the steps of a choice, from the leaves up: their states and failures."""

    def __init__(self, plan, choice):
        self.choice = choice
        self.known = {}
        self.noted = []
        self._plan = plan
        self._story = Story(plan, choice)
        self._needs = needs(plan)
        self._equalities = {}
        for number in self._story.met:
            self.known[number] = self._state_of(number)
        root = len(plan)
        self._meet(root, self.known[root], State(zero_term()), True)

    def _state_of(self, number):
        """The state of a step above those that are known; its failures are noted."""
        step = self._plan[number]
        sources = self._plan.inputs_of(number)
        if step.kind == "scan":
            return self._state_of_table(step.table)
        if step.kind == "union":
            return self.known[self._story.followed(number)]
        first = self.known[sources[0]]
        if step.kind in ("join", "semi"):
            return self._meet(number, first, self.known[sources[1]])
        if step.kind == "anti":
            return self._meet(number, first, _wanted(number, self.known[sources[1]]))
        if step.kind == "own":
            return self._meet(number, first, self._ruled(number))
        if number in self._plan.exchanges:
            self._check_exchange(number, first)
            return self._behind_exchange(number)
        return first

    def _state_of_table(self, table):
        word = table.lies[0]
        if word == "copied":
            return State()
        if word == "zero":
            return State(zero_term())
        if word == "anyhow":
            return State(place_term(table.name))
        _, rule, columns = table.lies
        terms = [column_term(table.name, column) for column in columns]
        return State(rule_term(rule, *terms))

    def _ruled(self, number):
        """At the worker that the rule of an own or a split gives."""
        rule = self._plan[number].name
        terms = self._story.terms_of(number, self._plan[number].named)
        return State(rule_term(rule, *terms))

    def _behind_exchange(self, number):
        """The state behind an exchange."""
        kind = self._plan[number].kind
        if kind == "split":
            return self._ruled(number)
        return State() if kind == "broadcast" else State(zero_term())

    def _check_exchange(self, number, state):
        if state.term is not None:
            return
        if self._needs[number] != SET:
            self._note("copies", 1, number)
        for anti, wanted in state.wants:
            self._note("junk", 2, number, anti=anti, right=wanted)

    def _meet(self, number, left, right, at_end=False):
        """The state where two meet at a step, or at the answer."""
        if left.term is None and right.term is None:
            # The antis of a left side have lower numbers than those of the right one.
            return State(None, left.wants + right.wants)
        if left.term is not None and right.term is not None:
            self._check_lost(number, left.term, right.term, at_end)
            return State(left.term)
        term = right.term if left.term is None else left.term
        for anti, wanted in left.wants + right.wants:
            if not self._gives((anti,), term, wanted):
                self._note("junk", 2, number, at_end=at_end, anti=anti, left=term, right=wanted)
        return State(term)

    def _check_lost(self, number, left, right, at_end):
        level = self._story.level_of(number)
        if self._gives(level, left, right):
            return
        if level == ():
            self._note("lost", 1, number, at_end=at_end, left=left, right=right)
        else:
            self._note("lost", 2, number, at_end=at_end, anti=level[0], left=left, right=right)

    def _gives(self, level, left, right):
        """Whether the facts of a level give that two terms are equal."""
        if level not in self._equalities:
            self._equalities[level] = Equalities(self._story.facts_at(level))
        return self._equalities[level].follows(left, right)

    def _note(self, kind, rank, number, *, at_end=False, anti=0, left=None, right=None):
        failure = Failure(kind, rank, number, self.choice, at_end=at_end, anti=anti, left=left, right=right)
        self.noted.append(failure)


def _apart(plan, walks):
    """The failures of rows that should come together and may lie at two workers."""
    found = []
    by_choice = {walk.choice: walk for walk in walks}
    for number in collapses(plan):
        source, _ = collapsed(plan, number)
        for walk in walks:
            if number in walk.known:
                for other in fitting(plan, walk.choice, number):
                    left = walk.known[source].term
                    right = by_choice[other].known[source].term
                    if _lie_apart(plan, walk.choice, number, other, left, right):
                        found.append(Failure("apart", 3, number, walk.choice, other=other, left=left, right=right))
    return found


def _lie_apart(plan, choice, number, other, left, right):
    if left is None or right is None:
        return False
    facts = pair_facts(plan, choice, number, other)
    keys = Story(plan, choice).table_keys()
    return not Equalities(facts, keys).follows(left, right.second())


def _wanted(anti, state):
    """What meets the left input's state at an anti whose right input has this state."""
    return state if state.term is None else State(None, [(anti, state.term)])


def _text_of(term, wants):
    if term is not None:
        return f"at {term.text}"
    if not wants:
        return "everywhere"
    told = ", ".join([f"{anti} {wanted.text}" for anti, wanted in wants])
    return f"everywhere, wants {told}"
