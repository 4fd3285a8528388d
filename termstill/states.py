"""States of a claim that lives, and how it goes on without counting days one by one.

A state is a tuple (day, left, going, count): the day on which the claim is, the days that are left, those for which the
term stands, and the count of the occasions that counted.
"""

from termstill.counts import count_behind, first_count
from termstill.pairs import capped_day, last_pair


def first_state(rule):
    """The state at the beginning of day 0."""
    return (0, rule.length, 0, first_count(rule))


def last_day(rule, state):
    """The last day of the claim, if nothing more happens."""
    day, left, going, _ = state
    last, _ = last_pair(rule, day, left, going)
    return capped_day(rule, last)


def waited(state, day):
    """The state at the beginning of a later day, up to which nothing more happens; or itself on its own day."""
    today, left, going, count = state
    stood = min(going, day - today)
    ran = day - today - stood
    return (day, max(left - ran, 0), going - stood, count)


def begun(rule, state, name, days):
    """The state behind an occasion that begins on its day, or None if this one does not count."""
    day, left, going, count = state
    if name not in rule.names:
        return None
    at = rule.names.index(name)
    behind = count_behind(rule, count, at)
    if behind is None:
        return None
    left, going = rule.kinds[at].happen(left, going, days)
    return (day, left, going, behind)
