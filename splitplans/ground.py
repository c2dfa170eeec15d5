"""What placings make of rows: tuples with a state for each choice, None where a step is not met.

Whether two terms are equal is told by numberings. Who looks for placings brings those that tell
all unlike terms apart; who looks at a table brings those of the table.
"""

from splitplans.menus import fits, fits_as_own
from splitplans.needs import SET, collapsed, collapses, needs
from splitplans.places import State, states
from splitplans.stories import Story, choices, fitting
from splitplans.terms import rule_term, zero_term


def asked_pairs(plan):
    """For each collapse, choice that meets it, and choice that fits this one: all three."""
    found = []
    for number in collapses(plan):
        for choice in choices(plan):
            if number in Story(plan, choice).met:
                found.extend([(number, choice, other) for other in fitting(plan, choice, number)])
    return found


def asked_levels(plan):
    """For each choice and level: both."""
    found = []
    for choice in choices(plan):
        met = Story(plan, choice).met
        found.extend([(choice, level) for level in [()] + [(anti,) for anti in plan.antis if anti in met]])
    return found


def entry_states(plan, menu):
    """The states behind the exchanges of a menu, by step, choice and index, where they fit."""
    found = {}
    for choice in choices(plan):
        story = Story(plan, choice)
        for number in story.met:
            for index in range(len(menu)):
                if fits(plan[number], menu[index]):
                    found[number, choice, index] = _state_behind(story, number, menu[index])
    return found


def _state_behind(story, number, entry):
    if entry[0] == "gather":
        return State(zero_term())
    if entry[0] == "broadcast":
        return State()
    terms = story.terms_of(number, entry[2])
    return State(rule_term(entry[1], *terms))


class Ground:
    """A plan and a menu, with numberings by level and by pair that tell which terms are equal."""

    def __init__(self, plan, menu, numberings, pairs):
        self.choices = choices(plan)
        self._plan = plan
        self._menu = list(menu)
        self._numberings = numberings
        self._pairs = pairs
        self._asked_pairs = asked_pairs(plan)
        self._collapsed = {number: collapsed(plan, number)[0] for number in collapses(plan)}
        self._stories = {choice: Story(plan, choice) for choice in self.choices}
        self._states = states(plan)
        self._needs = needs(plan)
        self._behind = entry_states(plan, menu)
        # By step, choice and text of a state: what the like states have in common.
        self._marks = {}

    def meets(self, number, choice):
        """Whether a step is met in a choice."""
        return number in self._stories[choice].met

    def placings(self, number):
        """All that can be placed on the edge of a step: pairs of an own and an exchange, or None."""
        step = self._plan[number]
        indexes = range(len(self._menu))
        owns = [index for index in indexes if fits_as_own(step, self._menu[index])]
        exchanges = [index for index in indexes if fits(step, self._menu[index])]
        return [(own, exchange) for own in [None] + owns for exchange in [None] + exchanges]

    def row_of_scan(self, number):
        """The row of a scan."""
        return tuple([self._states.get((number, choice)) for choice in self.choices])

    def row_made(self, number, rows):
        """What a step makes of a row behind the edge of each input, None if something fails."""
        if self._lie_apart(number, rows):
            return None
        found = []
        for at in range(len(self.choices)):
            state = None
            if self.meets(number, self.choices[at]):
                state = self._state_made(number, self.choices[at], [row[at] for row in rows])
                if state is None:
                    return None
            found.append(state)
        return tuple(found)

    def row_sent(self, number, row, own, exchange):
        """What a placing on the edge of a step makes of a row, None if something fails."""
        found = []
        for choice, state in zip(self.choices, row):
            if state is not None and own is not None:
                level = self._stories[choice].level_of(number)
                state = self._met(choice, level, state, self._behind[number, choice, own])
                if state is None:
                    return None
            if state is not None and exchange is not None:
                if state.term is None and (state.wants or self._needs[number] != SET):
                    return None
                state = self._behind[number, choice, exchange]
            found.append(state)
        return tuple(found)

    def ends(self, row):
        """Whether a row behind the root is right at worker 0."""
        zero = State(zero_term())
        met = [self._met(choice, (), state, zero) for choice, state in zip(self.choices, row)]
        return None not in met

    def judges(self, number, choice):
        """The numberings by which terms are alike at a step: pairs (numbering, by marked terms or not)."""
        story = self._stories[choice]
        level = story.level_of(number)
        if level != ():
            return [(self._numberings[choice, level], False)]
        antis = [anti for anti in self._plan.antis if anti in story.met]
        found = [(self._numberings[choice, each], False) for each in [()] + [(anti,) for anti in antis]]
        for asked in self._asked_pairs:
            collapse, first, second = asked
            source = self._collapsed[collapse]
            if number == source or number in self._plan.below(source):
                found.extend([(self._pairs[asked], False)] if first == choice else [])
                found.extend([(self._pairs[asked], True)] if second == choice else [])
        return found

    def mark(self, number, row):
        """What alike rows of a step have in common, and unlike ones have not."""
        return tuple([self._mark_of(number, choice, state) for choice, state in zip(self.choices, row)])

    def _mark_of(self, number, choice, state):
        if state is None:
            return None
        if (number, choice, state.text) not in self._marks:
            if state.term is None:
                wants = [(anti, self._numberings[choice, (anti,)][term.text]) for anti, term in state.wants]
                mark = ("everywhere", tuple(wants))
            else:
                mark = ("at", tuple(self._numbers_of(number, choice, state.term)))
            self._marks[number, choice, state.text] = mark
        return self._marks[number, choice, state.text]

    def _numbers_of(self, number, choice, term):
        second = term.second()
        judges = self.judges(number, choice)
        return [numbering[second.text if marked else term.text] for numbering, marked in judges]

    def _state_made(self, number, choice, below):
        """The state that a step makes, in a choice, of the states below it."""
        kind = self._plan[number].kind
        if kind == "union":
            sources = self._plan.inputs_of(number)
            return below[sources.index(self._stories[choice].followed(number))]
        level = self._stories[choice].level_of(number)
        if kind in ("join", "semi"):
            return self._met(choice, level, below[0], below[1])
        if kind != "anti":
            return below[0]
        right = below[1]
        wanted = right if right.term is None else State(None, [(number, right.term)])
        return self._met(choice, level, below[0], wanted)

    def _met(self, choice, level, left, right):
        """The state where two meet at a level, None if they do not."""
        if left.term is not None and right.term is not None:
            return left if self._are_one(choice, level, left.term, right.term) else None
        term = right.term if left.term is None else left.term
        wants = left.wants + right.wants
        if term is None:
            return State(None, wants)
        right_there = [self._are_one(choice, (anti,), term, wanted) for anti, wanted in wants]
        return State(term) if all(right_there) else None

    def _are_one(self, choice, level, left, right):
        numbering = self._numberings[choice, level]
        return numbering[left.text] == numbering[right.text]

    def _lie_apart(self, number, rows):
        """Whether rows that a collapse makes one lie at two workers, in some two choices."""
        for asked in self._asked_pairs:
            collapse, first, second = asked
            if collapse == number:
                row = rows[self._plan.inputs_of(number).index(self._collapsed[number])]
                left = row[self.choices.index(first)].term
                right = row[self.choices.index(second)].term
                if left is not None and right is not None:
                    numbering = self._pairs[asked]
                    if numbering[left.text] != numbering[right.second().text]:
                        return True
        return False
