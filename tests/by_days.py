"""What the document tells, done plainly: day by day, and by trying all stories."""

import random

from termstill.kinds import Anew, Lift, Still
from termstill.rules import Rule
from termstill.stories import Story

NAMES = ("a", "bb", "talk", "owe", "plea", "cap", "rest", "ccc", "dddd", "z")
# A claim by a drawn rule that can live on this day can live for ever: few and small occasions end long before it.
FAR = 120


class Claim:
    """A claim that goes on day by day, just as point [8] tells."""

    def __init__(self, rule, day=0, left=None, going=0):
        self.rule = rule
        self.day = day
        self.left = rule.length if left is None else left
        self.going = going
        self.many = {}
        self.lapsed = False

    def begin(self, name, days):
        """Whether the occasion counts."""
        for kind in self.rule.kinds:
            if kind.name == name and (kind.times is None or self.many.get(name, 0) < kind.times):
                self.many[name] = self.many.get(name, 0) + 1
                self.change(kind, days)
                return True
        return False

    def change(self, kind, days):
        if isinstance(kind, Still):
            self.going = max(self.going, min(days, kind.days))
        elif isinstance(kind, Anew):
            if self.left < kind.left:
                self.left = kind.left
        elif self.left + kind.by <= kind.top:
            self.left += kind.by
        elif self.left < kind.top:
            self.left = kind.top

    def finish_day(self):
        if self.going > 0:
            self.going -= 1
        else:
            if self.left > 0:
                self.left -= 1
            if self.left == 0 and self.day % 7 not in self.rule.rests:
                self.lapsed = True
        if self.rule.cap is not None and self.day == self.rule.cap - 1:
            self.lapsed = True
        if not self.lapsed:
            self.day += 1

    def twin(self):
        other = Claim(self.rule, self.day, self.left, self.going)
        other.many = dict(self.many)
        other.lapsed = self.lapsed
        return other

    def last(self):
        """The day with which the claim lapses if nothing more happens."""
        other = self.twin()
        while not other.lapsed:
            other.finish_day()
        return other.day


def told(rule, story):
    """The lapse, the indexes that count, and the pairs (left, going) at the beginnings of all days."""
    claim = Claim(rule)
    counted, pairs = [], []
    while not claim.lapsed:
        pairs.append((claim.left, claim.going))
        for at, (day, name, days) in enumerate(story.occasions):
            if day == claim.day and claim.begin(name, days):
                counted.append(at)
        claim.finish_day()
    return claim.day, tuple(counted), pairs


def lapse_of(rule, story):
    return told(rule, story)[0]


def full_days(kind):
    """How long an occasion of an order lasts."""
    return kind.days if isinstance(kind, Still) else 1


def ordered(rule, names):
    """The story in which names happen in order: each on the last day that there is then."""
    occasions = []
    for name in names:
        last = lapse_of(rule, Story(occasions))
        occasions.append((last, name, full_days(rule.kind(name))))
    return Story(occasions)


def latest_lapses(rule, most):
    """The greatest lapses of all stories in which at most 0, 1 .. `most` occasions count; FAR if it is that day."""
    last = [0] * (1 + (most or 0))
    states = {(rule.length, 0, (0,) * len(rule), 0)}
    for day in range(FAR):
        later = set()
        for left, going, used, many in states_of_day(rule, states, most):
            claim = Claim(rule, day, left, going)
            claim.finish_day()
            if claim.lapsed:
                last[many] = max(last[many], day)
            else:
                later.add((claim.left, claim.going, used, many))
        states = later
    for *_, many in states:
        last[many] = FAR
    return [max(last[: many + 1]) for many in range(len(last))]


def latest_lapse(rule):
    """The greatest lapse of all stories, or None if a claim lives for ever."""
    (last,) = latest_lapses(rule, None)
    return None if last == FAR else last


def states_of_day(rule, states, most):
    """All states behind occasions of one day, of each kind and each length; for None, of any number of them."""
    reached, fresh = set(states), list(states)
    while fresh:
        left, going, used, many = fresh.pop()
        if many == most:
            continue
        for at, kind in enumerate(rule.kinds):
            if kind.times is not None and used[at] == kind.times:
                continue
            for days in range(1, full_days(kind) + 1):
                claim = Claim(rule, 0, left, going)
                claim.change(kind, days)
                # How often a kind of any number of times happened makes no difference later.
                behind = used if kind.times is None else (*used[:at], used[at] + 1, *used[at + 1 :])
                state = (claim.left, claim.going, behind, 0 if most is None else many + 1)
                if state not in reached:
                    reached.add(state)
                    fresh.append(state)
    return reached


def first_partings(p, q):
    """The earliest days with which, by some story, just p and just q lets the claim lapse; None if there is none.

    Goes day by day over all pairs of how both claims stand.
    """
    found, seen, pairs, day = [None, None], set(), {(new_stand(p), new_stand(q))}, 0
    while pairs and None in found:
        later = set()
        for one, two in pairs_of_day(p, q, pairs):
            ends = [finished(p, day, one), finished(q, day, two)]
            if None not in ends:
                later.add(tuple(ends))
            elif ends != [None, None]:
                at = ends.index(None)
                found[at] = day if found[at] is None else found[at]
        day += 1
        marks = {(day % 7, pair) for pair in later}
        # Behind the first cap there are no pairs; without a cap nothing new comes any more.
        pairs = later if p.cap or q.cap or not marks <= seen else set()
        seen |= marks
    return tuple(found)


def new_stand(rule):
    """How a claim stands at first: the days left, those of standing, and how often each kind counted."""
    return (rule.length, 0, (0,) * len(rule))


def finished(rule, day, stand):
    """How the claim stands behind this day, or None if it lapses with it."""
    claim = Claim(rule, day, *stand[:2])
    claim.finish_day()
    return None if claim.lapsed else (claim.left, claim.going, stand[2])


def happened(rule, stand, name, days):
    """How the claim stands behind an occasion."""
    for at, kind in enumerate(rule.kinds):
        if kind.name == name and (kind.times is None or stand[2][at] < kind.times):
            claim = Claim(rule, 0, *stand[:2])
            claim.change(kind, days)
            used = [many + (some == at and kind.times is not None) for some, many in enumerate(stand[2])]
            return (claim.left, claim.going, tuple(used))
    return stand


def pairs_of_day(p, q, pairs):
    """All pairs of stands behind occasions of one day, of each name and each length that can make a difference."""
    longest = {}
    for kind in (*p.kinds, *q.kinds):
        longest[kind.name] = max(longest.get(kind.name, 0), full_days(kind))
    occasions = [(name, days) for name in longest for days in range(1, longest[name] + 1)]
    reached, fresh = set(pairs), list(pairs)
    while fresh:
        one, two = fresh.pop()
        for name, days in occasions:
            pair = (happened(p, one, name, days), happened(q, two, name, days))
            if pair not in reached:
                reached.add(pair)
                fresh.append(pair)
    return reached


def drawn_kind(draw, name, greatest, times):
    shape = draw.choice([Still, Anew, Lift])
    numbers = [draw.randint(1, greatest) for _ in range(2 if shape is Lift else 1)]
    return shape(name, *numbers, draw.choice(times))


def drawn_rule(draw, most_kinds=4, greatest=4, times=(1, 1, 2, 3, None), longest=8):
    """A small rule, with rest days or none, with a cap or none, and kinds in any order."""
    names = draw.sample(NAMES, draw.randint(0, most_kinds))
    rests = draw.sample(range(7), draw.choice([0, 0, 1, 2, 2, 3, 6]))
    cap = draw.choice([None, None, draw.randint(1, longest), draw.randint(1, 3 * longest)])
    return Rule(draw.randint(1, longest), rests, cap, [drawn_kind(draw, name, greatest, times) for name in names])


def drawn_rules(seed, many, **limits):
    draw = random.Random(seed)
    return [drawn_rule(draw, **limits) for _ in range(many)]


def drawn_story(draw, rule, most=12, longest=7):
    """A story of occasions, of kinds of the rule and of none, many of them on a last day or beside it."""
    occasions = []
    day = 0
    for _ in range(draw.randint(0, most)):
        last = lapse_of(rule, Story(occasions))
        days = [day, day, day + 1, day + draw.randint(0, 9), last, last, last - 1, last + draw.randint(0, 1)]
        day = max(day, draw.choice(days))
        name = draw.choice([*rule.names, *rule.names, "none"[1:]])
        occasions.append((day, name, draw.randint(1, longest)))
    return Story(occasions)
