"""Two rules that read the same story, compared for all stories.

A node is a pair of the states of both claims at the same time of the same day. Nodes are searched day by day, those of
a day with fewer occasions first.
"""

from termstill.pairs import lasting
from termstill.rules import WEEK
from termstill.states import begun, first_state, last_day, waited
from termstill.stories import Story

FIRST_ONLY = (True, False)
SECOND_ONLY = (False, True)
NEITHER = (False, False)


def never_sooner(p, q):
    """Whether in no story the claim lapses sooner by p than by q."""
    return sooner(p, q) is None


def sooner(p, q):
    """Some story in which the claim lapses sooner by p than by q, as early as possible by p, or None."""
    return first_story(p, q, [FIRST_ONLY])


def alike(p, q):
    """Whether the claim lapses with the same day by both rules in all stories."""
    return parting(p, q) is None


def parting(p, q):
    """Some story in which the claim lapses with unlike days, the earlier one as early as possible, or None."""
    return first_story(p, q, [FIRST_ONLY, SECOND_ONLY])


def first_story(p, q, wanted):
    """Some story in which the claims end a day in one of the wanted ways, as early as possible, or None."""
    layer = [(first_state(p), first_state(q))]
    links = {layer[0]: None}
    happenings = all_happenings([*p.kinds, *q.kinds])
    day = 0
    while layer:
        nodes = nodes_of_day(p, q, day, layer, happenings, links)
        layer = []
        for node in nodes:
            ends = (lapses_today(p, node[0]), lapses_today(q, node[1]))
            if ends in wanted:
                return linked_story(links, node)
            if ends == NEITHER:
                behind = node_of_next_day(p, q, node)
                if behind not in links:
                    links[behind] = (node, None)
                    layer.append(behind)
        day += 1
    return None


def all_happenings(kinds):
    """All pairs (name, days) of occasions between which these kinds tell a difference."""
    longest = {}
    for kind in kinds:
        longest[kind.name] = max(longest.get(kind.name, 1), lasting(kind))
    return [(name, days) for name, most in longest.items() for days in range(1, most + 1)]


def nodes_of_day(p, q, day, ahead, happenings, links):
    """These nodes at the beginning of a day, and all to which occasions of this day lead, which are linked."""
    nodes = list(ahead)
    at = 0
    while at < len(nodes):
        node = nodes[at]
        for name, days in happenings:
            behind = (state_behind(p, node[0], name, days), state_behind(q, node[1], name, days))
            if behind not in links:
                links[behind] = (node, (day, name, days))
                nodes.append(behind)
        at += 1
    return nodes


def state_behind(rule, state, name, days):
    """The state behind an occasion that begins on its day, be it that it counts or not."""
    behind = begun(rule, state, name, days)
    return state if behind is None else behind


def lapses_today(rule, state):
    """Whether a claim lapses with the day of its state, if nothing more happens."""
    return last_day(rule, state) == state[0]


def node_of_next_day(p, q, node):
    """The node at the beginning of the next day."""
    day = node[0][0] + 1
    one, two = waited(node[0], day), waited(node[1], day)
    # Without a cap days a week apart are alike: so the search comes to an end.
    if p.cap is None and q.cap is None and day == WEEK:
        return ((0, *one[1:]), (0, *two[1:]))
    return (one, two)


def linked_story(links, node):
    """The story of the occasions on the way to this node."""
    occasions = []
    link = links[node]
    while link is not None:
        node, occasion = link
        if occasion is not None:
            occasions.append(occasion)
        link = links[node]
    return Story(occasions[::-1])
