"""Claims: that the rows of an answer come in the order that the plan promises."""

from splitplans.claimcases import Asker
from splitplans.places import states
from splitplans.rowpairs import column_pairs
from splitplans.stories import Story, choices


def claims(plan):
    """The claims of the plan, ascending: two choices and an index of its order each."""
    found = choices(plan)
    indexes = range(len(plan.order))
    return [(found[at], second, index) for at in range(len(found)) for second in found[at:] for index in indexes]


def claim_facts(plan, first, second, index):
    """What is equal where two rows of an answer are alike in the columns before this one."""
    ahead = Story(plan, first)
    behind = Story(plan, second)
    marked = [(left.second(), right.second()) for left, right in behind.facts_at(())]
    return ahead.facts_at(()) + marked + column_pairs(ahead, behind, len(plan), plan.order[:index])


def claim_holds(plan, first, second, index):
    """Whether the claim holds."""
    return case_of(plan, states(plan), (first, second, index)) is not None


def broken_claim(plan):
    """The first claim that does not hold, or None."""
    known = states(plan)
    for claim in claims(plan):
        if case_of(plan, known, claim) is None:
            return claim
    return None


def case_of(plan, known, claim):
    """The case that shows that a claim holds, or None; known are the plan's states."""
    return Asker(plan, known, *claim).case(claim_facts(plan, *claim))


def breach_of(plan, known, claim):
    """How the rows of a claim that does not hold can come in another order."""
    asker = Asker(plan, known, *claim)
    asker.case(claim_facts(plan, *claim))
    return asker.breach
