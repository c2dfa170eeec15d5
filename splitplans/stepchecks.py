"""Whether a step can be made: InvalidStep with the first reason why not.

Each check asks in the order name, count, column, measures, measure, whole, deep.
"""

from splitplans.errors import InvalidStep
from splitplans.names import is_name
from splitplans.values import has_twice

MOST_TESTED = 8
MOST_ARGUMENTS = 3
MOST_SORTED = 4
MOST_PAIRS = 3
MOST_KEYS = 4
MOST_MEASURES = 3
MOST_DEEP = 3


def check_where(source, test, columns):
    """Check a where."""
    measured = _has_measure(source, columns)
    _refuse("name", not is_name(test))
    _refuse("count", not 1 <= len(columns) <= MOST_TESTED)
    _refuse("column", _has_strange(source, columns) or (measured and has_twice(columns)))
    _refuse("whole", measured and len(columns) < len(source.columns))


def check_compute(source, name, function, columns):
    """Check a compute and return how deep its new column is."""
    _refuse("name", not is_name(name) or not is_name(function) or name in source.columns)
    _refuse("count", not 1 <= len(columns) <= MOST_ARGUMENTS)
    _refuse("column", _has_strange(source, columns))
    _refuse("measure", _has_measure(source, columns))
    deep = 1 + max([source.depths[column] for column in columns])
    _refuse("deep", deep > MOST_DEEP)
    return deep


def check_equal(source, left, right):
    """Check an equal."""
    _refuse("column", _has_strange(source, [left, right]) or left == right)
    _refuse("measure", _has_measure(source, [left, right]))


def check_keep(source, columns):
    """Check a keep."""
    _refuse("count", len(columns) == 0)
    _refuse("column", _has_strange(source, columns) or has_twice(columns))


def check_distinct(source):
    """Check a distinct."""
    _refuse("measure", len(source.measures) > 0)


def check_group(source, columns, sums):
    """Check a group by these key columns; sums are pairs of a name and a measure."""
    names = [name for name, _ in sums]
    wrong = [name for name in names if not is_name(name) or name in columns]
    _refuse("name", len(wrong) > 0 or has_twice(names))
    _refuse("count", len(columns) > MOST_KEYS or len(sums) > MOST_MEASURES)
    _refuse("count", len(columns) + len(sums) == 0)
    summed = [measure[1] for _, measure in sums if _is_sum(measure)]
    _refuse("column", _has_strange(source, list(columns) + summed) or has_twice(columns))
    _refuse("measures", any([measure != "count" and not _is_sum(measure) for _, measure in sums]))
    _refuse("measure", _has_measure(source, columns))


def check_sorted(source, columns):
    """Check a sort or a merge."""
    _check_plain(source, columns, MOST_SORTED)


def check_ruled(source, rule, columns):
    """Check an own or a split."""
    _refuse("name", not is_name(rule))
    _check_plain(source, columns, MOST_ARGUMENTS)


def check_join(left, right, pairs):
    """Check a join."""
    _refuse("name", any([column in right.columns for column in left.columns]))
    check_pairs(left, right, pairs)


def check_pairs(left, right, pairs):
    """Check the pairs of a join, a semi or an anti."""
    ours = [column for column, _ in pairs]
    theirs = [column for _, column in pairs]
    _refuse("count", not 1 <= len(pairs) <= MOST_PAIRS)
    _refuse("column", _has_strange(left, ours) or _has_strange(right, theirs) or has_twice(pairs))
    _refuse("measure", _has_measure(left, ours) or _has_measure(right, theirs))


def check_union(left, right):
    """Check a union."""
    _refuse("count", len(left.columns) != len(right.columns))


def _check_plain(source, columns, most):
    """Check 1 to so many unlike plain columns."""
    _refuse("count", not 1 <= len(columns) <= most)
    _refuse("column", _has_strange(source, columns) or has_twice(columns))
    _refuse("measure", _has_measure(source, columns))


def _refuse(reason, wrong):
    if wrong:
        raise InvalidStep(reason)


def _has_strange(source, columns):
    return any([column not in source.columns for column in columns])


def _has_measure(source, columns):
    return any([column in source.measures for column in columns])


def _is_sum(measure):
    return isinstance(measure, tuple) and len(measure) == 2 and measure[0] == "sum"
