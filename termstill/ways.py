"""Ways: pairs (pair, names) of names that happen in order, and the pair to which this leads."""

from termstill.counts import all_counts, count_ahead, most_counts
from termstill.pairs import first_pair, gains, led_pair


def further_way(rule, way, kind):
    """The way with one occasion more."""
    pair, names = way
    return (led_pair(rule, pair, kind), (*names, kind.name))


def chosen_ways(rule, limits, least, fillers):
    """For each count up to these limits a way with the least pair, or else with the greatest one.

    The kinds of `fillers` happen in between wherever this leads to a greater pair.
    """
    ways = {}
    for count in all_counts(limits):
        # A greater pair never leads to a lesser one, so the chosen ways with one occasion less are enough.
        further = [
            further_way(rule, ways[count_ahead(count, at)], kind) for at, kind in enumerate(rule.kinds) if count[at]
        ]
        if not further:
            further = [(first_pair(rule), ())]
        ways[count] = filled_way(rule, min(further) if least else max(further), fillers)
    return ways


def filled_way(rule, way, fillers):
    """The way with those of the fillers behind it that lead to a greater pair."""
    for kind in fillers:
        further = further_way(rule, way, kind)
        if further[0] > way[0]:
            way = further
    return way


def endless_kinds(rule):
    """The kinds by which alone a claim can live for ever, if there is no cap."""
    return [kind for kind in rule.kinds if kind.times is None and gains(kind)]


def greatest_ways(rule):
    """For each count of the rule a way with the greatest pair; none of its kinds is an endless one."""
    # Kinds of any number of times that are not endless leave a day where none is left, and are worth nothing else.
    fillers = [kind for kind in rule.kinds if kind.times is None]
    return chosen_ways(rule, most_counts(rule), False, fillers)
