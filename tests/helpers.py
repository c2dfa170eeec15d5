"""What several tests share: short ways to write terms, and a slow second opinion."""

from splitplans.errors import PlanError
from splitplans.terms import (
    Term, column_term, function_term, head_of, place_term, row_term, rule_term, zero_term,
)


def read(text):
    return Term.read(text)


def reads(*texts):
    return [Term.read(text) for text in texts]


def pairs(*texts):
    """Pairs of terms, each written "left = right"."""
    found = []
    for text in texts:
        left, right = text.split(" = ")
        found.append((Term.read(left), Term.read(right)))
    return found


def by_function():
    """A term of each kind by its function, with its text."""
    city = column_term("orders", "city")
    day = column_term("orders", "day", True)
    call = function_term("f", city, function_term("g", day))
    return [
        (row_term("orders"), "orders"),
        (row_term("orders", True), "orders'"),
        (city, "orders.city"),
        (day, "orders'.day"),
        (place_term("orders"), "@orders"),
        (place_term("orders", True), "@orders'"),
        (zero_term(), "0"),
        (function_term("f", city), "f(orders.city)"),
        (call, "f(orders.city, g(orders'.day))"),
        (function_term("f", city, day, call), "f(orders.city, orders'.day, f(orders.city, g(orders'.day)))"),
        (rule_term("r", city), "r[orders.city]"),
        (rule_term("r", city, call), "r[orders.city, f(orders.city, g(orders'.day))]"),
        (rule_term("r", day, city, day), "r[orders'.day, orders.city, orders'.day]"),
    ]


def fault(call, *args, **more):
    """The error that a call raises: its class and its attributes; None if it raises none."""
    try:
        call(*args, **more)
    except PlanError as error:
        return (error.__class__.__name__, *vars(error).values())
    return None


def texts_of(steps):
    """A derivation with texts in place of terms, which is easier to compare."""
    return [tuple(str(item) if isinstance(item, Term) else item for item in step) for step in steps]


def universe(facts, keys, terms):
    """All subterms of the facts and terms, and the key columns of all tables, by their texts."""
    wholes = [term for fact in facts for term in fact] + list(terms)
    for table, names in keys.items():
        for marked in (False, True):
            wholes.append(row_term(table, marked))
            wholes.extend(column_term(table, name, marked) for name in names)
    return {term.text: term for whole in wholes for term in whole.subterms()}


def slow_classes(facts, keys, terms):
    """A dict from texts to class numbers, by the rules of [4] taken again and again."""
    found = universe(facts, keys, terms)
    number = {text: at for at, text in enumerate(found)}

    def merge(left, right):
        gone, kept = number[left], number[right]
        for text in number:
            if number[text] == gone:
                number[text] = kept
        return gone != kept

    changed = True
    while changed:
        changed = False
        for left, right in facts:
            changed = merge(left.text, right.text) or changed
        for one in found.values():
            for other in found.values():
                if one.parts and head_of(one) == head_of(other):
                    alike = zip(one.parts, other.parts)
                    if all(number[a.text] == number[b.text] for a, b in alike):
                        changed = merge(one.text, other.text) or changed
        for table, names in keys.items():
            if all(number[f"{table}.{name}"] == number[f"{table}'.{name}"] for name in names):
                changed = merge(table, f"{table}'") or changed
    return number


class Dice:
    """Numbers that look drawn, the same ones in each run and under each Python."""

    def __init__(self, seed):
        self.state = seed * 7919 + 17

    def below(self, limit):
        self.state = (self.state * 6364136223846793005 + 1442695040888963407) % 2 ** 64
        return (self.state >> 33) % limit

    def one_of(self, things):
        return things[self.below(len(things))]
