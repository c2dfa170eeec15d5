"""Papers: all that shows that a plan is right, for a looker that runs nothing."""

from splitplans.equalities import Equalities
from splitplans.needs import collapsed, collapses
from splitplans.orders import broken_claim, case_of, claims
from splitplans.places import State, failures, states
from splitplans.stories import Story, choices, fitting, pair_facts
from splitplans.terms import rule_term, zero_term


class Paper:
    """The lines, one for each step met in each choice, and the cases, one for each claim."""

    def __init__(self, lines, cases):
        self.lines = list(lines)
        self.cases = list(cases)

    def __iter__(self):
        return iter(self.lines)


class Line:
    """The state of a step in a choice, and a reason for each equality that is asked there."""

    def __init__(self, number, choice, state, reasons):
        self.number = number
        self.choice = choice
        self.state = state
        self.reasons = list(reasons)


def paper_of(plan):
    """The paper of a plan that is right; None of any other."""
    if failures(plan) or broken_claim(plan) is not None:
        return None
    known = states(plan)
    lines = []
    for choice in choices(plan):
        lines.extend(Liner(plan, choice, known).written())
    return Paper(lines, [case_of(plan, known, claim) for claim in claims(plan)])


class Liner:
    """Writes the lines of one choice of a right plan, whose states are known."""

    def __init__(self, plan, choice, known):
        self._plan = plan
        self._choice = choice
        self._known = known
        self._story = Story(plan, choice)
        self._collapses = collapses(plan)
        self._equalities = {}

    def written(self):
        """The lines, in number order."""
        return [self._line(number) for number in self._story.met]

    def _line(self, number):
        state = self._state_at(number)
        reasons = self._reasons_to_meet(number)
        if number in self._collapses:
            reasons.extend(self._reasons_together(number))
        if number == len(self._plan):
            reasons.extend(self._reasons_at_end(state))
        return Line(number, self._choice, state, reasons)

    def _state_at(self, number):
        return self._known[number, self._choice]

    def _reasons_to_meet(self, number):
        step = self._plan[number]
        if step.kind not in ("join", "semi", "anti", "own"):
            return []
        sources = self._plan.inputs_of(number)
        left = self._state_at(sources[0])
        if step.kind == "own":
            terms = self._story.terms_of(number, step.named)
            return self._reasons_of(number, left, State(rule_term(step.name, *terms)))
        right = self._state_at(sources[1])
        if step.kind == "anti" and right.term is not None:
            right = State(None, [(number, right.term)])
        return self._reasons_of(number, left, right)

    def _reasons_of(self, number, left, right):
        """Why two states meet."""
        if left.term is not None and right.term is not None:
            return [("meet", self._derive(self._story.level_of(number), left.term, right.term))]
        term = right.term if left.term is None else left.term
        if term is None:
            return []
        wants = left.wants + right.wants
        return [("want", anti, self._derive((anti,), term, wanted)) for anti, wanted in wants]

    def _reasons_together(self, number):
        """Why rows that are alike lie at one worker."""
        source, _ = collapsed(self._plan, number)
        left = self._state_at(source).term
        reasons = []
        for other in fitting(self._plan, self._choice, number):
            right = self._known[source, other].term
            if left is not None and right is not None:
                facts = pair_facts(self._plan, self._choice, number, other)
                equalities = Equalities(facts, self._story.table_keys())
                reasons.append(("together", other, equalities.derive(left, right.second())))
        return reasons

    def _reasons_at_end(self, state):
        zero = zero_term()
        if state.term is not None:
            return [("answer", self._derive((), state.term, zero))]
        return [("answer want", anti, self._derive((anti,), zero, wanted)) for anti, wanted in state.wants]

    def _derive(self, level, left, right):
        """A derivation from the facts of a level."""
        if level not in self._equalities:
            self._equalities[level] = Equalities(self._story.facts_at(level))
        return self._equalities[level].derive(left, right)
