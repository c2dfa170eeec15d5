"""Reading: what the rows of a plan text say, or the first word that cannot stand.

Nothing is made here of what is read: tables, steps and plans are made when the whole text can stand.
"""

from splitplans.errors import InvalidText
from splitplans.names import is_name

# How many inputs the step of each word has.
INPUTS = {
    "scan": 0, "where": 1, "compute": 1, "equal": 1, "keep": 1, "distinct": 1, "group": 1,
    "sort": 1, "own": 1, "split": 1, "broadcast": 1, "gather": 1, "merge": 1,
    "join": 2, "semi": 2, "anti": 2, "union": 2,
}
# How many names stand before the columns of the steps that have COLUMNS.
BEFORE_COLUMNS = {"where": 1, "compute": 2, "keep": 0, "sort": 0, "own": 1, "split": 1, "merge": 0}
PAIRED = ("join", "semi", "anti")
LIES = ("anyhow", "copied", "zero")


class TextRow:
    """The words of one row, which are taken one by one; InvalidText at one that cannot stand."""

    def __init__(self, number, text):
        self._number = number
        self._words = text.split(" ")
        self._at = 0

    def refuse(self):
        """Raise the error of the word that would be taken now, or of the row's end."""
        raise InvalidText(self._number, self._at)

    def is_at_end(self):
        """Whether all words are taken."""
        return self._at == len(self._words)

    def stands(self, *wanted):
        """Whether one of these words would be taken now."""
        return not self.is_at_end() and self._words[self._at] in wanted

    def stands_name(self):
        """Whether a name would be taken now."""
        return not self.is_at_end() and is_name(self._words[self._at])

    def take(self, *wanted):
        """Take one of these words."""
        if not self.stands(*wanted):
            self.refuse()
        self._at += 1
        return self._words[self._at - 1]

    def take_name(self):
        """Take a name."""
        if not self.stands_name():
            self.refuse()
        self._at += 1
        return self._words[self._at - 1]

    def take_names(self):
        """Take names, as many as there are, at least one."""
        return [self.take_name()] + self.take_any_names()

    def take_any_names(self):
        """Take names, as many as there are, perhaps none."""
        names = []
        while self.stands_name():
            names.append(self.take_name())
        return names

    def end(self):
        """Refuse any word that is left."""
        if not self.is_at_end():
            self.refuse()


class PlanReader:
    """What has been read: tables (name, columns, key, lies), steps (word, what it is over), order.

    What a step is over: for a group its keys and measures, for a join and the like its pairs,
    otherwise all names that stand behind its inputs.
    """

    def __init__(self):
        self.tables = []
        self.steps = []
        self.order = []
        self._scanned = 0
        # The numbers of the steps that are no input yet.
        self._loose = []

    def read_row(self, row):
        """Read one row; returns whether it was the last one."""
        if not self.tables:
            self._read_table(row)
        elif not self.steps and row.stands("table"):
            self._read_table(row)
        elif self._can_answer() and row.stands("answer"):
            self._read_answer(row)
            return True
        else:
            self._read_step(row)
        return False

    def _can_answer(self):
        return len(self._loose) == 1 and self._scanned == len(self.tables)

    def _read_answer(self, row):
        row.take("answer")
        if not row.is_at_end():
            row.take("in")
            self.order = row.take_names()
        row.end()

    def _read_table(self, row):
        row.take("table")
        name = row.take_name()
        columns = row.take_names()
        key = []
        if row.stands("key"):
            row.take("key")
            key = row.take_names()
        word = row.take("dealt", *LIES)
        lies = (word,)
        if word == "dealt":
            rule = row.take_name()
            lies = (word, rule, tuple(row.take_names()))
        row.end()
        self.tables.append((name, columns, key, lies))

    def _read_step(self, row):
        number = len(self.steps) + 1
        row.take(str(number))
        kinds = list(INPUTS)
        kind = row.take(*kinds)
        if kind == "scan":
            over = [self._take_table(row)]
        else:
            self._take_inputs(row, INPUTS[kind])
            over = _read_over(row, kind)
        row.end()
        self._loose.append(number)
        self.steps.append((kind, over))

    def _take_table(self, row):
        if self._scanned == len(self.tables):
            row.refuse()
        name = row.take(self.tables[self._scanned][0])
        self._scanned += 1
        return name

    def _take_inputs(self, row, many):
        if len(self._loose) < many:
            row.refuse()
        first = len(self._loose) - many
        numbers = self._loose[first:]
        self._loose = self._loose[:first]
        for number in numbers:
            row.take(str(number))


def read_plan(text):
    """A reader that has read a whole plan text; raises InvalidText."""
    rows = text.split("\n")
    reader = PlanReader()
    for at in range(len(rows)):
        if reader.read_row(TextRow(at, rows[at])):
            if at + 1 < len(rows):
                raise InvalidText(at + 1, 0)
            return reader
    raise InvalidText(len(rows), 0)


def _read_over(row, kind):
    """What stands behind the inputs of a step."""
    if kind == "group":
        return _read_group(row)
    if kind in PAIRED:
        return _read_pairs(row)
    if kind == "equal":
        return [row.take_name(), row.take_name()]
    if kind not in BEFORE_COLUMNS:
        return []
    names = [row.take_name() for _ in range(BEFORE_COLUMNS[kind])]
    return names + row.take_names()


def _read_pairs(row):
    pairs = []
    while not pairs or not row.is_at_end():
        left = row.take_name()
        pairs.append((left, row.take_name()))
    return pairs


def _read_group(row):
    """The keys of a group, and its measures as pairs of a name and what it is."""
    columns = row.take_any_names()
    sums = []
    if row.is_at_end():
        return (columns, sums)
    row.take("with")
    while not sums or not row.is_at_end():
        name = row.take_name()
        word = row.take("count", "sum")
        sums.append((name, "count" if word == "count" else ("sum", row.take_name())))
    return (columns, sums)
