"""The fewest exchanges that make a plan right, with a table that shows that fewer do not."""

from splitplans.equalities import Equalities
from splitplans.errors import InvalidMenu
from splitplans.ground import Ground, asked_levels, asked_pairs, entry_states
from splitplans.menus import check_placing, fits, fits_as_own
from splitplans.places import states
from splitplans.plans import Plan
from splitplans.rebuilding import rebuilt
from splitplans.stories import Story, choices, pair_facts
from splitplans.terms import zero_term


class ClosedTable:
    """Numberings that tell which terms are alike, and what every placing makes of each step's rows."""

    def __init__(self, numberings, pairs, made, sent):
        self.numberings = {at: _copied(numberings[at]) for at in numberings}
        self.pairs = {at: _copied(pairs[at]) for at in pairs}
        self.made = {number: list(made[number]) for number in made}
        self.sent = {number: list(sent[number]) for number in sent}


class Placing:
    """A right placing of least cost with the placed plan, all None if there is none; and the table."""

    def __init__(self, cost, at, plan, table):
        self.cost = cost
        self.at = at
        self.plan = plan
        self.table = table


class Entry:
    """A row that a placing makes at a step, what it costs, and of which entries, by which words."""

    def __init__(self, number, row, cost, sources, words=(None, None)):
        self.number = number
        self.row = row
        self.cost = cost
        self.sources = sources
        self.words = words


def fewest(plan, menu):
    """A right placing of the menu upon the plan, of least cost."""
    check_placing(plan, menu)
    numberings, pairs = _exact_numberings(plan, menu)
    search = Search(plan, Ground(plan, menu, numberings, pairs))
    table = ClosedTable(numberings, pairs, search.listed_made(), search.listed_sent())
    best = search.best()
    if best is None:
        return Placing(None, None, None, table)
    at = search.placing_of(best)
    return Placing(best.cost, at, placed(plan, menu, at), table)


def placed(plan, menu, at):
    """The plan with the steps of a placing put in."""
    check_placing(plan, menu)
    behind = {}
    for edge in sorted(list(at)):
        # Raises InvalidPlan for an edge that is no step.
        step = plan[edge]
        own, exchange = at[edge]
        if own is not None and (own not in range(len(menu)) or not fits_as_own(step, menu[own])):
            raise InvalidMenu(own, "edge")
        if exchange is not None and (exchange not in range(len(menu)) or not fits(step, menu[exchange])):
            raise InvalidMenu(exchange, "edge")
        behind[edge] = _steps_of(menu, own, exchange)
    return Plan(rebuilt(plan, {table.name: table for table in plan.tables}, behind, []))


def _steps_of(menu, own, exchange):
    """The steps that are put on an edge: a kind and its words each."""
    found = []
    if own is not None:
        _, rule, columns = menu[own]
        found.append(("own", [rule, *columns]))
    if exchange is not None and menu[exchange][0] == "split":
        _, rule, columns = menu[exchange]
        found.append(("split", [rule, *columns]))
    elif exchange is not None:
        found.append((menu[exchange][0], []))
    return found


def _exact_numberings(plan, menu):
    """Numberings, by level and by pair, that give one number to equal terms alone."""
    terms = _terms_by_choice(plan, menu)
    numberings = {}
    for choice, level in asked_levels(plan):
        facts = Story(plan, choice).facts_at(level)
        taken = terms[choice]
        numberings[choice, level] = Equalities(facts).numbering(*taken)
    pairs = {}
    for number, choice, other in asked_pairs(plan):
        facts = pair_facts(plan, choice, number, other)
        equalities = Equalities(facts, Story(plan, choice).table_keys())
        taken = terms[choice] + [term.second() for term in terms[other]]
        pairs[number, choice, other] = equalities.numbering(*taken)
    return (numberings, pairs)


def _terms_by_choice(plan, menu):
    """For each choice the terms of all workers at which its rows may lie."""
    terms = {choice: [zero_term()] for choice in choices(plan)}
    known = states(plan)
    for number, choice in known:
        if plan[number].kind == "scan" and known[number, choice].term is not None:
            terms[choice].append(known[number, choice].term)
    behind = entry_states(plan, menu)
    for number, choice, index in behind:
        if behind[number, choice, index].term is not None:
            terms[choice].append(behind[number, choice, index].term)
    return terms


class Search:
    """All unlike rows that placings make at each step, each at its least cost."""

    def __init__(self, plan, ground):
        self._plan = plan
        self._ground = ground
        self._made = {}
        self._sent = {}
        for number in range(1, len(plan) + 1):
            self._made[number] = self._entries_made(number)
            self._sent[number] = self._entries_sent(number)

    def listed_made(self):
        """For each step the rows of its own output, with their costs."""
        return {number: _listed(self._made[number]) for number in self._made}

    def listed_sent(self):
        """For each step the rows behind its edge, with their costs."""
        return {number: _listed(self._sent[number]) for number in self._sent}

    def best(self):
        """The entry behind the root that is right at least cost, None if there is none."""
        found = None
        for entry in self._sent[len(self._plan)].values():
            if self._ground.ends(entry.row) and (found is None or entry.cost < found.cost):
                found = entry
        return found

    def placing_of(self, entry):
        """What was placed on which edge for an entry to be made."""
        found = {}
        waiting = [entry]
        while waiting:
            last = waiting.pop()
            if last.words != (None, None):
                found[last.number] = last.words
            waiting.extend(last.sources)
        return found

    def _entries_made(self, number):
        found = {}
        if self._plan[number].kind == "scan":
            self._add(found, Entry(number, self._ground.row_of_scan(number), 0, []))
            return found
        ways = [[]]
        for source in self._plan.inputs_of(number):
            ways = [way + [entry] for way in ways for entry in self._sent[source].values()]
        for below in ways:
            row = self._ground.row_made(number, [entry.row for entry in below])
            self._add(found, Entry(number, row, sum([entry.cost for entry in below]), below))
        return found

    def _entries_sent(self, number):
        found = {}
        for entry in self._made[number].values():
            for own, exchange in self._ground.placings(number):
                row = self._ground.row_sent(number, entry.row, own, exchange)
                cost = entry.cost if exchange is None else entry.cost + 1
                self._add(found, Entry(number, row, cost, [entry], (own, exchange)))
        return found

    def _add(self, found, entry):
        """Keep an entry, if its row may be and no alike one costs as little."""
        if entry.row is None:
            return
        mark = self._ground.mark(entry.number, entry.row)
        if mark not in found or entry.cost < found[mark].cost:
            found[mark] = entry


def _listed(entries):
    return [(entry.row, entry.cost) for entry in entries.values()]


def _copied(numbering):
    return {text: numbering[text] for text in numbering}
