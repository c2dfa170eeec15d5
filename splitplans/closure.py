"""The classes of equal terms that follow from facts and keys, and why."""

from splitplans.terms import column_term, head_of


class Link:
    """Why two terms, by number, are equal: by the fact, or since each pair of the premises is."""

    def __init__(self, left, right, fact, premises):
        self.left = left
        self.right = right
        self.fact = fact
        self.premises = premises


class Form:
    """A head over parts: what another form of that head over equal parts results in is equal."""

    def __init__(self, head, parts, result):
        self.head = head
        self.parts = parts
        self.result = result


class Closure:
    """Terms by number, in classes of equal ones. What has been linked stays linked.

    A key is a form as well: a head over the key columns, whose result is the row. The links
    make trees, one for each class, so between two equal terms there is just one way, and a
    link never changes a way that was there before it: its premises rest on earlier links.
    """

    def __init__(self, keys):
        self.terms = []
        self.links = []
        self._key_columns = keys
        self._numbers = {}
        self._leaders = []
        self._members = []
        self._forms = []
        self._forms_over = []
        self._form_of = {}
        self._above = []
        self._link_above = []
        self._waiting = []

    def number_of(self, term):
        """The number of the term, which is taken in if it is new."""
        if term.text not in self._numbers:
            parts = list(term.subterms())
            for part in parts:
                self._take(part)
            self._settle()
        return self._numbers[term.text]

    def leader_of(self, term):
        """A number that is the same for equal terms, as long as nothing is taken in."""
        return self._leaders[self.number_of(term)]

    def assume(self, left, right, fact):
        """Make two terms equal by the fact of this number."""
        self._waiting.append(Link(self.number_of(left), self.number_of(right), fact, []))
        self._settle()

    def are_equal(self, left, right):
        """Whether the equality of two terms follows."""
        one = self.number_of(left)
        other = self.number_of(right)
        return self._leaders[one] == self._leaders[other]

    def way(self, left, right):
        """The links from one number to an equal one: pairs (number of the link, forwards or not)."""
        rising = self._to_root(left)
        falling = self._to_root(right)
        while rising and falling and rising[-1] == falling[-1]:
            rising.pop()
            falling.pop()
        way = []
        for at in rising:
            link = self._link_above[at]
            way.append((link, self.links[link].left == at))
        for at in falling[::-1]:
            link = self._link_above[at]
            way.append((link, self.links[link].right == at))
        return way

    def _take(self, term):
        """Take in a term whose parts are there already."""
        if term.text in self._numbers:
            return
        number = len(self.terms)
        self._numbers[term.text] = number
        self.terms.append(term)
        self._leaders.append(number)
        self._members.append([number])
        self._forms_over.append([])
        self._above.append(None)
        self._link_above.append(None)
        if term.parts:
            self._add_form(head_of(term), term.parts, number)
        if term.kind == "row" and term.name in self._key_columns:
            self._take_key(term, number)

    def _take_key(self, row, number):
        columns = [column_term(row.name, name, row.marked) for name in self._key_columns[row.name]]
        for column in columns:
            self._take(column)
        self._add_form(("key", row.name), columns, number)

    def _add_form(self, head, parts, result):
        numbers = [self._numbers[part.text] for part in parts]
        form = len(self._forms)
        self._forms.append(Form(head, numbers, result))
        for part in numbers:
            self._forms_over[self._leaders[part]].append(form)
        self._compare(form)

    def _compare(self, number):
        """If another form has the same head and equal parts, let the link of the two wait."""
        form = self._forms[number]
        shape = form.head + tuple([self._leaders[part] for part in form.parts])
        known = self._form_of.setdefault(shape, number)
        if known != number:
            self._waiting.append(self._link_of(self._forms[known], form))

    def _link_of(self, left, right):
        # A key states that the row equals the marked row, so the marked one is the right one.
        if self.terms[left.result].marked:
            left, right = right, left
        return Link(left.result, right.result, None, list(zip(left.parts, right.parts)))

    def _settle(self):
        while self._waiting:
            link = self._waiting.pop()
            if self._leaders[link.left] != self._leaders[link.right]:
                self._join(link)

    def _join(self, link):
        small, large = link.left, link.right
        if len(self._members[self._leaders[small]]) > len(self._members[self._leaders[large]]):
            small, large = large, small
        self._make_root(small)
        self._above[small] = large
        self._link_above[small] = len(self.links)
        self.links.append(link)
        self._absorb(self._leaders[small], self._leaders[large])

    def _absorb(self, small, large):
        """Put the class of one leader into that of the other."""
        members = list(self._members[small])
        for member in members:
            self._leaders[member] = large
        self._members[large].extend(members)
        moved = list(self._forms_over[small])
        self._forms_over[large].extend(moved)
        for form in moved:
            self._compare(form)

    def _make_root(self, at):
        came = None
        link = None
        while at is not None:
            onward = self._above[at]
            link_onward = self._link_above[at]
            self._above[at] = came
            self._link_above[at] = link
            came, link, at = at, link_onward, onward

    def _to_root(self, at):
        passed = []
        while at is not None:
            passed.append(at)
            at = self._above[at]
        return passed
