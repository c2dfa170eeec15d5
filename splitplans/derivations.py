"""Writing down why two terms are equal."""


def derivation(closure, left, right):
    """The steps of a derivation of left = right, the numbers of two equal terms."""
    writer = Writer(closure)
    for number in _links_below(closure, left, right):
        writer.write_link(number)
    writer.equal(left, right)
    return writer.steps


def _links_below(closure, left, right):
    """The numbers of the links on which left = right rests, each behind those it rests on."""
    found = {}
    waiting = [(left, right)]
    while waiting:
        one, other = waiting.pop()
        for number, _ in closure.way(one, other):
            if number not in found:
                found[number] = True
                waiting.extend(closure.links[number].premises)
    return sorted(list(found))


class Writer:
    """The steps of one derivation. The links are written before anything that rests on them."""

    def __init__(self, closure):
        self.steps = []
        self._closure = closure
        self._link_steps = {}
        self._turned_steps = {}
        self._equal_steps = {}

    def write_link(self, number):
        """Write the step that states the equality of a link."""
        link = self._closure.links[number]
        left = self._closure.terms[link.left]
        right = self._closure.terms[link.right]
        if link.fact is not None:
            step = ("fact", link.fact)
        elif left.kind == "row":
            step = ("key", left.name, self._steps_of(link.premises))
        else:
            step = ("apply", left, right, self._steps_of(link.premises))
        self._link_steps[number] = self._add(step)

    def equal(self, left, right):
        """The number of a step that states left = right, which is written if none does."""
        if (left, right) not in self._equal_steps:
            self._equal_steps[left, right] = self._write_equal(left, right)
        return self._equal_steps[left, right]

    def _steps_of(self, premises):
        return [self.equal(left, right) for left, right in premises]

    def _write_equal(self, left, right):
        way = self._closure.way(left, right)
        if not way:
            return self._add(("self", self._closure.terms[left]))
        numbers = [self._along(number, forwards) for number, forwards in way]
        last = numbers[0]
        for number in numbers[1:]:
            last = self._add(("join", last, number))
        return last

    def _along(self, number, forwards):
        """The number of a step that states a link's equality in this direction."""
        if forwards:
            return self._link_steps[number]
        if number not in self._turned_steps:
            self._turned_steps[number] = self._add(("turn", self._link_steps[number]))
        return self._turned_steps[number]

    def _add(self, step):
        self.steps.append(step)
        return len(self.steps) - 1
