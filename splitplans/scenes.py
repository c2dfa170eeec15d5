"""Scenes: rows of stories, from which worlds are made.

Terms that need not be equal get unlike values there, all above 0, and two workers that need not
be one are two. So just those rows come together that must, and no sum hides that a row is missing.
"""

from splitplans.equalities import Equalities
from splitplans.numbering import anti_over
from splitplans.terms import column_term, place_term, row_term, rule_term, zero_term
from splitplans.worlds import World

WORKERS = 2


class Scene:
    """Rows of stories, from which a world is made.

    facts and keys tell what is equal; rising are pairs of terms of which the left one gets the
    lesser value; apart is a pair of terms that name unlike workers, or None.
    """

    def __init__(self, plan, facts, known_keys, rising, apart):
        self._plan = plan
        self._equalities = Equalities(facts, known_keys)
        self._rising = rising
        self._apart = apart
        self._terms = {}
        # For each row that has entered: its table, whether it is marked, the anti whose mate it is.
        self._entered = []
        # The class of equal terms of each text, and the value of each class.
        self._classes = {}
        self._values = {}
        # What functions give for other values than those of terms, by name and values.
        self._given = {}
        self._take([zero_term()] + [term for fact in facts for term in fact])

    def enter(self, story, numbers, marked):
        """Let the rows of a story pass through these steps."""
        for number in numbers:
            step = self._plan[number]
            terms = _terms_at(story, number, step)
            self._take([term.second() for term in terms] if marked else terms)
            if step.kind == "scan":
                self._entered.append((step.table, marked, anti_over(self._plan, number)))

    def settle(self):
        """Give each class of equal terms a value of its own, once all rows have entered."""
        terms = list(self._terms.values())
        self._classes = self._equalities.numbering(*terms)
        rising = [(self._classes[low.text], self._classes[high.text]) for low, high in self._rising]
        heights = {each: 0 for each in self._classes.values()}
        # As often as there are pairs, since one may lift the low side of another.
        for _ in rising:
            for low, high in rising:
                heights[high] = max(heights[high], heights[low] + 1)
        ranked = sorted([(heights[each], each) for each in heights])
        self._values = {ranked[at][1]: at + 1 for at in range(len(ranked))}

    def values_of(self, terms):
        """The values of some columns and functions."""
        return tuple([self._values[self._classes[term.text]] for term in terms])

    def give(self, name, rows):
        """Let a function give a new value for each of these tuples for which no term tells it."""
        known = self._meanings("function").get(name, {})
        for values in rows:
            if values not in known and (name, values) not in self._given:
                self._given[name, values] = len(self._values) + len(self._given) + 1

    def worker_of(self, term):
        """The worker that a term names."""
        if self._apart is None:
            return 0
        left, right = [self._classes[each.text] for each in self._apart]
        away = left if right == self._classes[zero_term().text] else right
        return 1 if self._classes[term.text] == away else 0

    def world_with(self, tests, with_mates):
        """The world of the rows that have entered, with these tests; with the mates of antis, or without."""
        rows = {}
        anyhow = {}
        for table, marked, anti in self._entered:
            if (anti == 0 or with_mates) and not self._is_there(table, marked):
                terms = [column_term(table.name, column, marked) for column in table.columns]
                rows.setdefault(table.name, []).append(self.values_of(terms))
                if table.lies == ("anyhow",):
                    place = self.worker_of(place_term(table.name, marked))
                    anyhow.setdefault(table.name, []).append(place)
        functions = self._meanings("function")
        for name, values in self._given:
            functions.setdefault(name, {})[values] = self._given[name, values]
        return World(self._plan.tables, rows, workers=WORKERS, functions=functions, tests=tests,
                     rules=self._meanings("rule"), anyhow=anyhow)

    def _take(self, terms):
        for term in terms:
            for part in term.subterms():
                self._terms[part.text] = part

    def _is_there(self, table, marked):
        """Whether this is a marked row that is the unmarked one."""
        first = self._classes.get(row_term(table.name).text)
        return marked and first == self._classes[row_term(table.name, True).text]

    def _meanings(self, kind):
        """What the functions, or the rules, give for the values of their terms' parts."""
        found = {}
        for term in self._terms.values():
            if term.kind == kind:
                meaning = found.setdefault(term.name, {})
                result = self.worker_of(term) if kind == "rule" else self.values_of([term])[0]
                meaning[self.values_of(term.parts)] = result
        return found


def _terms_at(story, number, step):
    """The terms of the values and workers that a step brings in."""
    if step.kind == "scan":
        return _terms_of_table(step.table)
    if step.kind == "compute":
        return [story.term_of(number, step.new)]
    if step.kind in ("own", "split"):
        terms = story.terms_of(number, step.named)
        return [rule_term(step.name, *terms)]
    return []


def _terms_of_table(table):
    columns = [column_term(table.name, column) for column in table.columns]
    if table.lies[0] != "dealt":
        return columns + [place_term(table.name)]
    _, rule, dealt = table.lies
    terms = [column_term(table.name, column) for column in dealt]
    return columns + [rule_term(rule, *terms)]
