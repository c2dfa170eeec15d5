"""Stories: one row for each table, and what is equal if these rows come together."""

from splitplans.needs import collapsed
from splitplans.numbering import anti_over
from splitplans.terms import column_term, function_term, row_term


def choices(plan):
    """The choices of a plan, ascending: for each union the input whose rows are followed."""
    found = [()]
    for _ in plan.unions:
        found = [choice + (word,) for choice in found for word in ("left", "right")]
    return found


def fitting(plan, choice, number):
    """The choices that fit this one at the collapse with this number."""
    source, _ = collapsed(plan, number)
    inside = plan.below(source) + [source]
    outside = [at for at in range(len(plan.unions)) if plan.unions[at] not in inside]
    found = []
    for other in choices(plan):
        alike = all([other[at] == choice[at] for at in outside])
        if alike and number in Story(plan, other).met:
            found.append(other)
    return found


class Story:
    """The rows of a choice: of its tables, and the mates of its antis."""

    def __init__(self, plan, choice):
        self.choice = tuple(choice)
        self._plan = plan
        self.met = [number for number in range(1, len(plan) + 1) if self._meets(number)]
        scans = [number for number in self.met if plan[number].kind == "scan"]
        self.tables = [plan[number].table.name for number in scans if self.level_of(number) == ()]

    def term_of(self, number, column):
        """The term of a column of a step, None for a measure."""
        step = self._plan[number]
        if column in step.measures:
            return None
        if step.kind == "scan":
            return column_term(step.table.name, column)
        sources = self._plan.inputs_of(number)
        if step.kind == "compute" and column == step.new:
            parts = self.terms_of(sources[0], step.named)
            return function_term(step.name, *parts)
        if step.kind == "union":
            source = self.followed(number)
            return self.term_of(source, self._plan[source].columns[step.columns.index(column)])
        if step.kind == "join" and column not in self._plan[sources[0]].columns:
            return self.term_of(sources[1], column)
        return self.term_of(sources[0], column)

    def terms_of(self, number, columns):
        """The terms of some columns of a step."""
        return [self.term_of(number, column) for column in columns]

    def level_of(self, number):
        """() for a step that stands in no right side of an anti, otherwise (anti,)."""
        anti = anti_over(self._plan, number)
        return () if anti == 0 else (anti,)

    def facts_at(self, level):
        """The pairs of terms that are equal at a level."""
        facts = self._facts_within(())
        for anti in level:
            facts = facts + self._facts_of_pairs(anti) + self._facts_within(level)
        return facts

    def facts_of(self, number):
        """The pairs of terms that are equal where this step returns the story's rows."""
        step = self._plan[number]
        if step.kind == "equal":
            left, right = self.terms_of(number, step.named)
            return [(left, right)]
        return self._facts_of_pairs(number) if step.kind in ("join", "semi") else []

    def identity(self, number):
        """The terms that tell the step's row from others."""
        step = self._plan[number]
        if step.kind == "scan":
            return [row_term(step.table.name)]
        if step.kind == "distinct":
            return self.terms_of(number, step.columns)
        if step.kind == "group":
            return self.terms_of(number, step.named)
        sources = self._plan.inputs_of(number)
        if step.kind == "join":
            return self.identity(sources[0]) + self.identity(sources[1])
        return self.identity(self.followed(number) if step.kind == "union" else sources[0])

    def followed(self, number):
        """The number of the input of a union whose rows are followed."""
        left, right = self._plan.inputs_of(number)
        return left if self.choice[self._plan.unions.index(number)] == "left" else right

    def table_keys(self):
        """The keys of the plan's tables that have one."""
        return {table.name: list(table.key) for table in self._plan.tables if table.key}

    def _meets(self, number):
        while self._plan.above(number) != 0:
            over = self._plan.above(number)
            if self._plan[over].kind == "union" and self.followed(over) != number:
                return False
            number = over
        return True

    def _facts_within(self, level):
        """The facts of the met steps of just this level, in number order."""
        return [fact for number in self.met if self.level_of(number) == level for fact in self.facts_of(number)]

    def _facts_of_pairs(self, number):
        """The facts of the pairs of a join, a semi or an anti."""
        left, right = self._plan.inputs_of(number)
        return [(self.term_of(left, one), self.term_of(right, other)) for one, other in self._plan[number].pairs]


def pair_facts(plan, choice, number, other):
    """The facts of two rows that a collapse makes one: of a choice, and of one that fits it."""
    first = Story(plan, choice)
    second = Story(plan, other)
    source, columns = collapsed(plan, number)
    inside = plan.below(source) + [source]
    facts = first.facts_at(())
    for at in inside:
        if at in second.met and second.level_of(at) == ():
            facts = facts + [(left.second(), right.second()) for left, right in second.facts_of(at)]
    for column in columns:
        facts.append((first.term_of(source, column), second.term_of(source, column).second()))
    return facts
