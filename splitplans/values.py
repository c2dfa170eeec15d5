"""Small questions about values that are passed."""


def is_integer(thing):
    """Whether this is an integer and no truth."""
    return isinstance(thing, int) and not isinstance(thing, bool)


def has_twice(things):
    """Whether one of these is among them twice."""
    return len(set(things)) < len(things)


def begins_with(things, first):
    """Whether the first of these things, in order, are all of those."""
    return list(things[:len(first)]) == list(first)
