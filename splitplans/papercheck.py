"""The looker of papers: whether a paper shows that a plan is right.

It runs nothing and looks for no equality. It lists what is to be shown, from the leaves up, by
the plan alone, and then looks whether just that is shown.
"""

from splitplans.casecheck import CaseLooker
from splitplans.needs import SET, collapsed, collapses, needs
from splitplans.orders import claims
from splitplans.papers import Line, Paper
from splitplans.places import State
from splitplans.stepcheck import shows_same
from splitplans.stories import Story, choices, fitting, pair_facts
from splitplans.terms import column_term, place_term, rule_term, zero_term
from splitplans.values import is_integer


def shows_right(plan, paper):
    """Whether the paper shows that the plan is right."""
    if not isinstance(paper, Paper):
        return False
    looker = Looker(plan)
    return looker.takes_lines(paper.lines) and looker.takes_cases(paper.cases)


class Looker:
    """Looks at the lines and cases of a paper of one plan."""

    def __init__(self, plan):
        self._plan = plan
        self._needs = needs(plan)
        self._collapses = collapses(plan)
        self._stories = {choice: Story(plan, choice) for choice in choices(plan)}
        self._places = [(number, choice) for choice in self._stories for number in self._stories[choice].met]
        self._states = {}
        for number, choice in self._places:
            self._states[number, choice] = self._state_of(number, choice)

    def takes_lines(self, lines):
        """Whether these are the lines of the plan, and nothing forbids that it is right."""
        if len(lines) != len(self._places) or not all([self._may_stand(*place) for place in self._places]):
            return False
        return all([self._takes_line(line, *place) for line, place in zip(lines, self._places)])

    def takes_cases(self, cases):
        """Whether these are cases of the plan's claims, in order."""
        found = claims(self._plan)
        if len(cases) != len(found):
            return False
        lookers = [CaseLooker(self._plan, self._states, *claim) for claim in found]
        return all([looker.takes(case) for looker, case in zip(lookers, cases)])

    def _takes_line(self, line, number, choice):
        if not isinstance(line, Line) or not is_integer(line.number):
            return False
        if line.number != number or line.choice != choice or line.state != self._states[number, choice]:
            return False
        asked = self._asked_at(number, choice)
        if len(line.reasons) != len(asked):
            return False
        return all([_takes_reason(reason, *wanted) for reason, wanted in zip(line.reasons, asked)])

    def _may_stand(self, number, choice):
        """Whether no exchange brings copies here, or rows that are right only elsewhere."""
        if number not in self._plan.exchanges:
            return True
        state = self._states[self._plan.inputs_of(number)[0], choice]
        return state.term is not None or (self._needs[number] == SET and len(state.wants) == 0)

    def _state_of(self, number, choice):
        """The state of a step over those whose states are listed."""
        step = self._plan[number]
        if step.kind == "scan":
            return _state_of_table(step.table)
        if step.kind == "union":
            return self._states[self._stories[choice].followed(number), choice]
        if step.kind == "split":
            return self._ruled(number, choice)
        if step.kind in ("gather", "merge"):
            return State(zero_term())
        if step.kind == "broadcast":
            return State()
        left, right = self._meeting(number, choice)
        if left.term is not None:
            return left
        return right if right.term is not None else State(None, left.wants + right.wants)

    def _meeting(self, number, choice):
        """The states that meet at a step; everywhere as the second one, if nothing meets the first."""
        step = self._plan[number]
        known = [self._states[source, choice] for source in self._plan.inputs_of(number)]
        if step.kind == "own":
            return (known[0], self._ruled(number, choice))
        if step.kind == "anti" and known[1].term is not None:
            return (known[0], State(None, [(number, known[1].term)]))
        return (known[0], known[1] if len(known) == 2 else State())

    def _ruled(self, number, choice):
        """At the worker that the rule of an own or a split gives."""
        step = self._plan[number]
        terms = self._stories[choice].terms_of(number, step.named)
        return State(rule_term(step.name, *terms))

    def _asked_at(self, number, choice):
        """For each reason of a line: its words, the facts and keys, and the two terms."""
        asked = []
        if self._plan[number].kind in ("join", "semi", "anti", "own"):
            level = self._stories[choice].level_of(number)
            left, right = self._meeting(number, choice)
            asked.extend(self._asked_to_meet(choice, level, left, right, "meet", "want"))
        if number in self._collapses:
            asked.extend(self._asked_together(number, choice))
        if number == len(self._plan):
            state = self._states[number, choice]
            asked.extend(self._asked_to_meet(choice, (), state, State(zero_term()), "answer", "answer want"))
        return asked

    def _asked_to_meet(self, choice, level, left, right, word, word_of_want):
        """What is to be shown where two states meet at a step of a level."""
        story = self._stories[choice]
        if left.term is not None and right.term is not None:
            return [((word,), story.facts_at(level), {}, left.term, right.term)]
        term = right.term if left.term is None else left.term
        if term is None:
            return []
        wants = left.wants + right.wants
        return [((word_of_want, anti), story.facts_at((anti,)), {}, term, wanted) for anti, wanted in wants]

    def _asked_together(self, number, choice):
        """What is to be shown of the rows that a collapse makes one."""
        source, _ = collapsed(self._plan, number)
        left = self._states[source, choice].term
        asked = []
        for other in fitting(self._plan, choice, number):
            right = self._states[source, other].term
            if left is not None and right is not None:
                facts = pair_facts(self._plan, choice, number, other)
                known_keys = self._stories[choice].table_keys()
                asked.append((("together", other), facts, known_keys, left, right.second()))
        return asked


def _takes_reason(reason, words, facts, known_keys, left, right):
    """Whether a reason has these words and a derivation of what is asked."""
    if not isinstance(reason, tuple) or reason[:-1] != words:
        return False
    return shows_same(facts, known_keys, reason[-1], left, right)


def _state_of_table(table):
    word = table.lies[0]
    if word == "copied":
        return State()
    if word == "zero":
        return State(zero_term())
    if word == "anyhow":
        return State(place_term(table.name))
    _, rule, columns = table.lies
    terms = [column_term(table.name, column) for column in columns]
    return State(rule_term(rule, *terms))
