"""All errors of the package. Each keeps its arguments as attributes."""


class PlanError(ValueError):
    """The base of all errors of the package."""


class InputError(PlanError):
    """Something that was passed is not as it must be."""


class RunError(PlanError):
    """A deed that is not possible at this moment."""


class SizeError(PlanError):
    """Something is larger than it may be."""


class InvalidTerm(InputError):
    """A text that is no term's."""

    def __init__(self, text):
        super().__init__(f"no term has the text {text}")
        self.text = text


class InvalidTable(InputError):
    """A table that cannot be: reason is name, columns, key or lies."""

    def __init__(self, name, reason):
        super().__init__(f"the table {name} is wrong in its {reason}")
        self.name = name
        self.reason = reason


class InvalidWorld(InputError):
    """A world that cannot be: reason is tables, rows, key, workers or anyhow."""

    def __init__(self, reason):
        super().__init__(f"the world is wrong in its {reason}")
        self.reason = reason


class InvalidStep(InputError):
    """A step that cannot be made."""

    def __init__(self, reason):
        super().__init__(f"the step is wrong: {reason}")
        self.reason = reason


class InvalidPlan(InputError):
    """A plan that cannot be, or a number that is no step of it."""

    def __init__(self, number, reason):
        super().__init__(f"the plan is wrong at step {number}: {reason}")
        self.number = number
        self.reason = reason


class InvalidText(InputError):
    """A plan text: the first row, and in it the first word, that cannot stand there."""

    def __init__(self, row, word):
        super().__init__(f"word {word} of row {row} cannot stand there")
        self.row = row
        self.word = word


class InvalidMenu(InputError):
    """A menu with an entry that cannot be, or one that is used where it does not fit."""

    def __init__(self, index, reason):
        super().__init__(f"entry {index} of the menu is wrong: {reason}")
        self.index = index
        self.reason = reason


class UnknownName(InputError):
    """A name that is no table's."""

    def __init__(self, name):
        super().__init__(f"no table is called {name}")
        self.name = name


class UnknownDeed(InputError):
    """A deed of no form that the desk knows."""

    def __init__(self, index):
        super().__init__(f"deed {index} is of no known form")
        self.index = index


class NoMove(RunError):
    """A move that is not open."""

    def __init__(self, exchange, receiver, sender):
        super().__init__(f"exchange {exchange} has no open move to {receiver} from {sender}")
        self.exchange = exchange
        self.receiver = receiver
        self.sender = sender


class NotEnded(RunError):
    """The answer is asked for before the machine has ended."""

    def __init__(self):
        super().__init__("a move is still open")


class NothingToUndo(RunError):
    """No deed is left that could be taken back."""

    def __init__(self):
        super().__init__("no deed is left to take back")


class TooMany(SizeError):
    """More of something than a plan may have."""

    def __init__(self, limit):
        super().__init__(f"there are more than {limit}")
        self.limit = limit
