"""How far a run of a plan has come, and how one move takes it further."""

from splitplans.streams import owned, places_of, returned, values_at


class Flow:
    """What is made at which worker, what waits in the queues, and what has arrived.

    A move is a tuple (exchange, receiver, sender), and so is the name of a queue. A list of
    rows that was made or put into a queue is never changed, so that twins may share it.
    """

    def __init__(self, plan, world):
        self.made_moves = []
        self._plan = plan
        self._world = world
        # (step, worker): the rows; (exchange, sender): whether it has sent.
        self._made = {}
        self._sent = {}
        # Queues that are not empty, and how many of their rows have arrived.
        self._queues = {}
        self._brought = {}
        # (exchange, receiver): the rows that have arrived, and how many still wait.
        self._arrived = {}
        self._waiting = {}

    def start(self):
        """Make all that can be made before the first move."""
        for number in self._plan.exchanges:
            for worker in range(self._world.workers):
                self._arrived[number, worker] = []
                self._waiting[number, worker] = 0
        self._settle()

    def twin(self):
        """A flow that has come as far and goes its own way."""
        other = Flow(self._plan, self._world)
        other.made_moves = list(self.made_moves)
        other._made = {at: self._made[at] for at in self._made}
        other._sent = {at: self._sent[at] for at in self._sent}
        other._queues = {at: self._queues[at] for at in self._queues}
        other._brought = {at: self._brought[at] for at in self._brought}
        other._arrived = {at: list(self._arrived[at]) for at in self._arrived}
        other._waiting = {at: self._waiting[at] for at in self._waiting}
        return other

    def has_ended(self):
        """Whether no row waits any more."""
        # Where a row waits, the lowest exchange with such a row has an open move.
        return len(self._queues) == 0

    def open_list(self):
        """The open moves, ascending."""
        return [move for move in sorted(list(self._queues)) if self.is_open(move)]

    def is_open(self, move):
        """Whether the move is open."""
        if move not in self._queues:
            return False
        exchange, _, sender = move
        if self._plan[exchange].kind != "merge":
            return True
        source = self._plan.inputs_of(exchange)[0]
        return self._is_made_everywhere(source) and sender == self._first_sender(exchange)

    def bring(self, move):
        """Make an open move and return the row that it brings."""
        exchange, receiver, _ = move
        rows = self._queues[move]
        row = rows[self._brought[move]]
        self._brought[move] += 1
        if self._brought[move] == len(rows):
            del self._queues[move]
        self._arrived[exchange, receiver].append(row)
        self._waiting[exchange, receiver] -= 1
        self.made_moves.append(move)
        if self._waiting[exchange, receiver] == 0:
            self._settle()
        return row

    def rows_at(self, number, worker):
        """The rows of a step at a worker, or None if they are not made there yet."""
        rows = self._made.get((number, worker))
        return None if rows is None else list(rows)

    def _settle(self):
        """Make all that can be made now; what is made rests on lower numbers alone."""
        for number in range(1, len(self._plan) + 1):
            if number in self._plan.exchanges:
                self._settle_exchange(number)
            else:
                self._settle_step(number)

    def _settle_step(self, number):
        sources = self._plan.inputs_of(number)
        for worker in range(self._world.workers):
            ready = all([(source, worker) in self._made for source in sources])
            if ready and (number, worker) not in self._made:
                streams = [self._made[source, worker] for source in sources]
                self._made[number, worker] = self._rows_of(self._plan[number], streams, worker)

    def _rows_of(self, step, streams, worker):
        if step.kind == "scan":
            return self._world.lying(step.table.name, worker)
        if step.kind == "own":
            return owned(step, streams[0], self._world, worker)
        return returned(step, streams, self._world)

    def _settle_exchange(self, number):
        source = self._plan.inputs_of(number)[0]
        for sender in range(self._world.workers):
            if (source, sender) in self._made and (number, sender) not in self._sent:
                self._send(number, sender, self._made[source, sender])
        if self._is_made_everywhere(source):
            for receiver in range(self._world.workers):
                if self._waiting[number, receiver] == 0:
                    self._made[number, receiver] = self._arrived[number, receiver]

    def _send(self, number, sender, rows):
        """Put what an exchange sends into its queues."""
        self._sent[number, sender] = True
        parts = self._parts_of(self._plan[number], rows)
        for receiver in parts:
            move = (number, receiver, sender)
            if parts[receiver]:
                self._queues[move] = parts[receiver]
                self._brought[move] = 0
                self._waiting[number, receiver] += len(parts[receiver])

    def _parts_of(self, step, rows):
        """The rows that an exchange sends to each receiver."""
        if step.kind == "broadcast":
            return {receiver: rows for receiver in range(self._world.workers)}
        if step.kind in ("gather", "merge"):
            return {0: rows}
        places = places_of(step.inputs[0], step.named)
        parts = {}
        for row in rows:
            receiver = self._world.worker(step.name, values_at(row, places))
            parts.setdefault(receiver, []).append(row)
        return parts

    def _is_made_everywhere(self, number):
        return all([(number, worker) in self._made for worker in range(self._world.workers)])

    def _first_sender(self, exchange):
        """The sender whose first row a merge brings next."""
        step = self._plan[exchange]
        places = places_of(step.inputs[0], step.named)
        firsts = []
        for worker in range(self._world.workers):
            move = (exchange, 0, worker)
            if move in self._queues:
                row = self._queues[move][self._brought[move]]
                firsts.append((values_at(row, places), worker))
        return min(firsts)[1]
