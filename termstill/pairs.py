"""Pairs (e, z): the last day of a claim if nothing more happens, and the days left at its beginning.

There is one day left then, or none if the last day was put off by rest days. A claim with a greater pair never lapses
sooner, whatever happens to both. No pair knows of the cap; `capped_day` does.
"""

from termstill.kinds import Still


def last_pair(rule, day, left, going):
    """The pair of a claim with so many days left on this day, and for so many days of standing."""
    # Without a day left, it ends with the first working day behind those of standing.
    ending = day + going + max(left - 1, 0)
    last = rule.work(ending)
    return (last, min(left, 1) if last == ending else 0)


def first_pair(rule):
    """The pair that a claim has at first."""
    return last_pair(rule, 0, rule.length, 0)


def lasting(kind):
    """How long an occasion lasts that is worth as much as one of its kind can be."""
    return kind.days if isinstance(kind, Still) else 1


def led_pair(rule, pair, kind):
    """The pair to which such an occasion leads on the last day."""
    day, left = pair
    left, going = kind.happen(left, 0, lasting(kind))
    return last_pair(rule, day, left, going)


def gains(kind):
    """Whether such an occasion moves the last day, if a day is left then."""
    return kind.happen(1, 0, lasting(kind)) != (1, 0)


def capped_day(rule, day):
    """The last day of a claim by the rule with its cap, this one being the last by the rule without it."""
    return day if rule.cap is None else min(day, rule.cap - 1)
