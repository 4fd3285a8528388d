"""Orders in which occasions happen, each on the last day that the claim has then."""

from termstill.basics import is_sequence
from termstill.errors import NoKind
from termstill.lapses import lapse
from termstill.pairs import capped_day, first_pair, lasting, led_pair
from termstill.stories import Story
from termstill.ways import chosen_ways


def told_story(rule, names):
    """The story in which these names happen in order."""
    check_names(rule, names)
    return ordered_story(rule, names)


def in_order(rule, names):
    """The day with which the claim lapses if these names happen in order."""
    return lapse(rule, told_story(rule, names))


def greatest_order(rule, names):
    """Some order of these names with the greatest lapse."""
    return chosen_order(rule, names, False)


def least_order(rule, names):
    """Some order of these names with the least lapse."""
    return chosen_order(rule, names, True)


def chosen_order(rule, names, least):
    """Some order of these names with the least lapse, or else with the greatest one."""
    check_names(rule, names)
    limits = tuple([names.count(name) for name in rule.names])
    _, order = chosen_ways(rule, limits, least, ())[limits]
    return order


def check_names(rule, names):
    """Raise NoKind for the first name that is none of a kind, or is there more often than it counts."""
    # The letters of a string are not taken for names.
    if not is_sequence(names):
        raise NoKind(names)
    many = {}
    for name in names:
        kind = rule.kind(name)
        many[kind.name] = many.get(kind.name, 0) + 1
        if kind.times is not None and many[kind.name] > kind.times:
            raise NoKind(name)


def ordered_story(rule, names):
    """The story in which these names happen in order, all of which count."""
    pair = first_pair(rule)
    occasions = []
    for name in names:
        kind = rule.kind(name)
        occasions.append((capped_day(rule, pair[0]), name, lasting(kind)))
        pair = led_pair(rule, pair, kind)
    return Story(occasions)
