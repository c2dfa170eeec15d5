"""Runs that show that a plan is not right, their player, and verdicts."""

from splitplans.errors import InvalidWorld, NoMove, NotEnded
from splitplans.machine import First, Machine, played
from splitplans.orders import breach_of, broken_claim
from splitplans.papers import paper_of
from splitplans.places import failures, states
from splitplans.plain import plain
from splitplans.runworlds import world_of_breach, world_of_failure
from splitplans.streams import places_of, values_at


class Run:
    """A world, and the moves of a machine in it."""

    def __init__(self, world, moves):
        self.world = world.with_workers(world.workers)
        self.moves = list(moves)


class Verdict:
    """A paper that shows that a plan is right, or a run that shows that it is not."""

    def __init__(self, paper, run):
        self.paper = paper
        self.run = run


class Early:
    """Takes the moves of one exchange last, and of these the ones from one sender first."""

    def __init__(self, exchange, sender):
        self._exchange = exchange
        self._sender = sender

    def __call__(self, moves):
        for move in moves:
            if move[0] != self._exchange:
                return move
        for move in moves:
            if move[2] == self._sender:
                return move
        return moves[0]


def run_of(plan):
    """A run that breaks the plan, or None if the plan is right."""
    found = failures(plan)
    if found:
        return _played_out(plan, world_of_failure(plan, found[0]), First())
    claim = broken_claim(plan)
    if claim is None:
        return None
    breach = breach_of(plan, states(plan), claim)
    world, sender = world_of_breach(plan, claim, breach)
    return _played_out(plan, world, Early(breach.early, sender))


def breaks(plan, run):
    """Whether the run ends with another answer than the plain one, or not in the plan's order."""
    try:
        answer = played(plan, run.world, run.moves)
    except (InvalidWorld, NoMove, NotEnded):
        return False
    if sorted(answer) != sorted(plain(plan, run.world)):
        return True
    places = places_of(plan.root, plan.order)
    told = [values_at(row, places) for row in answer]
    return told != sorted(told)


def judge(plan):
    """The verdict on a plan."""
    paper = paper_of(plan)
    return Verdict(paper, run_of(plan) if paper is None else None)


def _played_out(plan, world, chooser):
    moves = Machine(plan, world).play(chooser)
    return Run(world, moves)
