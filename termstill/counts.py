"""Counts: how many occasions of each kind of a rule counted, in the order of the rule.

A kind of any number of times stays at 0: what counted of it changes nothing about what may count later.
"""


def first_count(rule):
    """The count at first."""
    return tuple([0 for _ in rule.kinds])


def most_counts(rule):
    """The count behind which only kinds of any number of times count."""
    return tuple([0 if kind.times is None else kind.times for kind in rule.kinds])


def all_counts(limits):
    """All counts up to these limits, ascending, so that each one stands behind those with one occasion less."""
    counts = [()]
    for limit in limits:
        counts = [(*count, many) for count in counts for many in range(limit + 1)]
    return counts


def count_behind(rule, count, at):
    """The count behind one occasion more of the kind at this index, or None if it does not count any more."""
    times = rule.kinds[at].times
    if times is None:
        return count
    if count[at] >= times:
        return None
    return (*count[:at], count[at] + 1, *count[at + 1 :])


def count_ahead(count, at):
    """The count with one occasion less of the kind at this index."""
    return (*count[:at], count[at] - 1, *count[at + 1 :])
