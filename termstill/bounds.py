"""What holds for all stories: how long a claim can live at most, by how few occasions, and by which kinds."""

from termstill.counts import count_behind, first_count, most_counts
from termstill.orders import ordered_story
from termstill.pairs import capped_day, first_pair, led_pair
from termstill.ways import endless_kinds, greatest_ways


def latest(rule):
    """The greatest lapse of all stories, or None if the claim can live for ever."""
    if endless_kinds(rule):
        return None if rule.cap is None else rule.cap - 1
    pair, _ = greatest_ways(rule)[most_counts(rule)]
    return capped_day(rule, pair[0])


def latest_story(rule):
    """Some story with the greatest lapse, each of whose occasions counts, or None if the claim can live for ever."""
    endless = endless_kinds(rule)
    if endless:
        return None if rule.cap is None else ordered_story(rule, names_up_to_cap(rule, endless[0]))
    _, names = greatest_ways(rule)[most_counts(rule)]
    return ordered_story(rule, names)


def latest_by(rule, most):
    """The greatest lapse of all stories in which at most so many occasions count."""
    layer = first_layer(rule)
    last = layer_day(layer)
    for _ in range(most):
        layer = next_layer(rule, layer)
        # Once nothing counts any more, no layer has a pair.
        if not layer:
            break
        last = layer_day(layer)
    return capped_day(rule, last)


def fewest(rule, day):
    """The least number of occasions that count in a story that lapses with this day or later, or None."""
    if not reaches(rule, day):
        return None
    layer = first_layer(rule)
    many = 0
    while layer_day(layer) < day:
        layer = next_layer(rule, layer)
        many += 1
    return many


def keepers(rule, day):
    """All least sets of names of kinds by which alone the claim reaches this day, or lives for ever if it is None."""
    found = []
    for names in name_sets(rule):
        # Shorter sets come first, so that each proper part that is enough is there already.
        if not any([is_part(keeper, names) for keeper in found]) and reaches(rule.only(names), day):
            found.append(names)
    return tuple(found)


def needless(rule):
    """The names of the kinds without which, each alone, the greatest lapse is the same."""
    last = latest(rule)
    return tuple([name for name in sorted(rule.names) if latest(without(rule, name)) == last])


def reaches(rule, day):
    """Whether some story lapses with this day or later; for None, whether the claim can live for ever."""
    last = latest(rule)
    return last is None or (day is not None and day <= last)


def without(rule, name):
    """The rule without the kind of this name."""
    return rule.only([other for other in rule.names if other != name])


def name_sets(rule):
    """All sets of names of kinds as ascending tuples, shorter ones first, then ascending."""
    parts = [()]
    for name in sorted(rule.names):
        parts = [*parts, *[(*part, name) for part in parts]]
    return sorted(parts, key=lambda part: (len(part), part))


def is_part(part, names):
    """Whether all names of the first set are in the second one."""
    return all([name in names for name in part])


def names_up_to_cap(rule, kind):
    """The name of this endless kind, as often as it takes to reach the cap."""
    pair = first_pair(rule)
    names = []
    while pair[0] < rule.cap - 1:
        pair = led_pair(rule, pair, kind)
        names.append(kind.name)
    return names


def first_layer(rule):
    """The greatest pair for each count without any occasion."""
    return {first_count(rule): first_pair(rule)}


def next_layer(rule, layer):
    """From the greatest pair for each count by so many occasions, those by one occasion more."""
    later = {}
    for count, pair in layer.items():
        for at, kind in enumerate(rule.kinds):
            behind = count_behind(rule, count, at)
            if behind is not None:
                led = led_pair(rule, pair, kind)
                later[behind] = max(led, later.get(behind, led))
    return later


def layer_day(layer):
    """The greatest last day of a layer."""
    return max([day for day, _ in layer.values()])
