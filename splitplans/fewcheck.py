"""The looker of closed tables: whether a table shows that no right placing costs less."""

from splitplans.errors import InvalidMenu, InvalidPlan
from splitplans.ground import Ground, asked_levels, asked_pairs, entry_states
from splitplans.menus import check_placing
from splitplans.numbering import anti_over
from splitplans.places import State, states
from splitplans.stepcheck import keeps
from splitplans.stories import Story, pair_facts
from splitplans.terms import zero_term
from splitplans.values import is_integer

MOST_PAIRS = 200


def shows_no_fewer(plan, menu, table, cost):
    """Whether the table shows that no right placing costs less; for None, that there is none."""
    try:
        check_placing(plan, menu)
    except (InvalidPlan, InvalidMenu):
        return False
    looker = TableLooker(plan, menu, table)
    return looker.has_form() and looker.is_closed() and looker.bounds(cost)


class TableLooker:
    """Looks at a table for one plan and menu."""

    def __init__(self, plan, menu, table):
        self._plan = plan
        self._numbers = list(range(1, len(plan) + 1))
        self._table = table
        self._ground = Ground(plan, menu, table.numberings, table.pairs)
        self._terms = _terms_to_have(plan, menu)
        self._levels = asked_levels(plan)

    def has_form(self):
        """Whether all numberings and lists are there, and are as they must be."""
        if not self._keeps_levels() or not self._keeps_pairs():
            return False
        return all([self._has_lists(number) and self._has_terms(number) for number in self._numbers])

    def is_closed(self):
        """Whether the lists cover all that placings make."""
        made = {}
        sent = {}
        for number in self._numbers:
            made[number] = self._least_costs(number, self._table.made[number])
            sent[number] = self._least_costs(number, self._table.sent[number])
        return all([self._covers_made(number, made[number]) and self._covers_sent(number, sent[number])
                    for number in self._numbers])

    def bounds(self, cost):
        """Whether each row that is right at the end costs as much; for None, whether there is none."""
        costs = [each for row, each in self._table.sent[len(self._plan)] if self._ground.ends(row)]
        return len(costs) == 0 or (cost is not None and min(costs) >= cost)

    def _keeps_levels(self):
        for choice, level in asked_levels(self._plan):
            numbering = self._table.numberings.get((choice, level))
            if numbering is None or not keeps(Story(self._plan, choice).facts_at(level), {}, numbering):
                return False
        return True

    def _keeps_pairs(self):
        for number, choice, other in asked_pairs(self._plan):
            numbering = self._table.pairs.get((number, choice, other))
            facts = pair_facts(self._plan, choice, number, other)
            known_keys = Story(self._plan, choice).table_keys()
            if numbering is None or not keeps(facts, known_keys, numbering):
                return False
        return True

    def _has_lists(self, number):
        for lists in (self._table.made, self._table.sent):
            if number not in lists or len(lists[number]) > MOST_PAIRS:
                return False
            if not all([self._is_pair(number, pair) for pair in lists[number]]):
                return False
        return True

    def _is_pair(self, number, pair):
        """Whether this is a pair of a row of the step and a cost."""
        if not isinstance(pair, tuple) or len(pair) != 2 or not is_integer(pair[1]):
            return False
        row = pair[0]
        if not isinstance(row, tuple) or len(row) != len(self._ground.choices):
            return False
        return all([self._is_state(number, choice, state) for choice, state in zip(self._ground.choices, row)])

    def _is_state(self, number, choice, state):
        """Whether this may stand in a row of the step for the choice."""
        if not self._ground.meets(number, choice):
            return state is None
        if not isinstance(state, State):
            return False
        # By which numbering wants are alike is told for steps of level () and antis that are met alone.
        wanting = [anti for anti, _ in state.wants] if state.term is None else []
        inside = anti_over(self._plan, number) != 0
        return all([(choice, (anti,)) in self._levels and not inside for anti in wanting])

    def _has_terms(self, number):
        """Whether all numberings by which terms are alike at a step have all terms that they need."""
        rows = [row for row, _ in self._table.made[number] + self._table.sent[number]]
        for at in range(len(self._ground.choices)):
            choice = self._ground.choices[at]
            if self._ground.meets(number, choice):
                told = self._terms[number, choice] + [term for row in rows for term in _terms_in(row[at])]
                terms = list({term.text: term for term in told}.values())
                for numbering, marked in self._ground.judges(number, choice):
                    if not all([(term.second() if marked else term).text in numbering for term in terms]):
                        return False
        return True

    def _least_costs(self, number, pairs):
        """The least cost of each mark among the pairs of a list."""
        found = {}
        for row, cost in pairs:
            mark = self._ground.mark(number, row)
            found[mark] = min(cost, found.get(mark, cost))
        return found

    def _covers_made(self, number, least):
        """Whether the made list of a step covers what it makes of the rows sent to it."""
        sources = self._plan.inputs_of(number)
        if not sources:
            return self._covers(number, least, self._ground.row_of_scan(number), 0)
        for row, cost in self._table.sent[sources[0]]:
            for others, more in _rows_beside(self._table.sent, sources):
                made = self._ground.row_made(number, [row] + others)
                if not self._covers(number, least, made, cost + more):
                    return False
        return True

    def _covers_sent(self, number, least):
        """Whether the sent list of a step covers what each placing makes of the rows made there."""
        for row, cost in self._table.made[number]:
            for own, exchange in self._ground.placings(number):
                sent = self._ground.row_sent(number, row, own, exchange)
                if not self._covers(number, least, sent, cost if exchange is None else cost + 1):
                    return False
        return True

    def _covers(self, number, least, row, cost):
        """Whether a list has an alike row of at most this cost; a row that fails needs none."""
        if row is None:
            return True
        mark = self._ground.mark(number, row)
        return mark in least and least[mark] <= cost


def _terms_to_have(plan, menu):
    """For each step and choice the terms that stand in its rows whatever the lists hold."""
    behind = entry_states(plan, menu)
    known = states(plan)
    found = {place: [zero_term()] for place in known}
    for number, choice in known:
        if plan[number].kind == "scan":
            found[number, choice].extend(_terms_in(known[number, choice]))
    for number, choice, index in behind:
        found[number, choice].extend(_terms_in(behind[number, choice, index]))
    return found


def _terms_in(state):
    """The terms that stand in a state."""
    return [term for _, term in state.wants] if state.term is None else [state.term]


def _rows_beside(sent, sources):
    """What stands beside a row of the first input: rows of the second one with their costs, if any."""
    if len(sources) == 1:
        return [([], 0)]
    return [([row], cost) for row, cost in sent[sources[1]]]
