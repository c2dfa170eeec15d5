"""The machine: a plan that several workers run, move by move; and choosers of moves."""

from splitplans.errors import NoMove, NotEnded
from splitplans.flow import Flow
from splitplans.plain import require_tables


class Machine:
    """A run of a plan in a world."""

    def __init__(self, plan, world):
        require_tables(plan, world)
        self._last = len(plan)
        self._flow = Flow(plan, world.with_workers(world.workers))
        self._flow.start()

    @property
    def ended(self):
        """Whether no move is open."""
        return self._flow.has_ended()

    @property
    def moved(self):
        """The moves made, in order."""
        return list(self._flow.made_moves)

    def open_moves(self):
        """Yields the open moves, ascending."""
        yield from self._flow.open_list()

    def move(self, exchange, receiver, sender):
        """Make a move and return the row that it brings; raises NoMove if it is not open."""
        if not self._flow.is_open((exchange, receiver, sender)):
            raise NoMove(exchange, receiver, sender)
        return self._flow.bring((exchange, receiver, sender))

    def play(self, chooser):
        """Make the moves that the chooser returns, until none is open; returns these moves."""
        made = []
        while not self.ended:
            exchange, receiver, sender = chooser(self._flow.open_list())
            self.move(exchange, receiver, sender)
            made.append((exchange, receiver, sender))
        return made

    def look_ahead(self, moves):
        """The rows that these moves would bring; all of them are taken back."""
        kept = self._flow
        self._flow = kept.twin()
        rows = []
        try:
            for exchange, receiver, sender in list(moves):
                rows.append(self.move(exchange, receiver, sender))
        finally:
            self._flow = kept
        return rows

    def answer(self):
        """What the root returns at worker 0; raises NotEnded while a move is open."""
        if not self.ended:
            raise NotEnded()
        return self.rows_at(self._last, 0)

    def rows_at(self, number, worker):
        """The rows that a step has at a worker, or None if it is not made there yet."""
        return self._flow.rows_at(number, worker)


class First:
    """Takes the first open move."""

    def __call__(self, moves):
        return moves[0]


class Last:
    """Takes the last open move."""

    def __call__(self, moves):
        return moves[-1]


class Drawn:
    """Takes, one call after the other, the open moves that the numbers tell, again and again."""

    def __init__(self, numbers):
        self._numbers = list(numbers)
        self._calls = 0

    def __call__(self, moves):
        number = self._numbers[self._calls % len(self._numbers)]
        self._calls += 1
        return moves[number % len(moves)]


def played(plan, world, moves):
    """The answer after these moves."""
    machine = Machine(plan, world)
    for exchange, receiver, sender in moves:
        machine.move(exchange, receiver, sender)
    return machine.answer()
