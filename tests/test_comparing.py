"""Point [15]: two rules compared for all stories."""

import itertools
import random
import unittest

from tests.by_days import first_partings, lapse_of
from termstill.comparing import alike, never_sooner, parting, sooner
from termstill.kinds import Anew, Lift, Still
from termstill.lapses import lapse
from termstill.rules import Rule
from termstill.stories import Story

NAMES = ("a", "b", "talk", "owe")
IDLE = (Anew("one", 1), Lift("top", 2, 1), Anew("one", 1, 1), Lift("top", 4, 1, 1))


def drawn_kind(draw, name):
    """A kind as large as the limits of point [3] let it be at most."""
    shape = draw.choice([Still, Anew, Lift])
    times = draw.choice([1, None])
    if shape is Still:
        return Still(name, draw.randint(1, 2), times)
    if shape is Anew:
        return Anew(name, draw.randint(1, 4), times)
    return Lift(name, draw.randint(1, 4), draw.randint(1, 4), times)


def drawn_rule(draw, names=NAMES, cap=True):
    rests = draw.sample(range(7), draw.choice([0, 0, 1, 2, 3, 6]))
    end = draw.choice([None, None, draw.randint(1, 10)]) if cap else None
    kinds = [drawn_kind(draw, name) for name in draw.sample(names, draw.randint(0, 2))]
    return Rule(draw.randint(1, 4), rests, end, kinds)


def but(rule, **parts):
    """The rule with other parts."""
    told = {"length": rule.length, "rests": rule.rests, "cap": rule.cap, "kinds": rule.kinds, **parts}
    return Rule(**told)


def with_kind(rule, kind, **parts):
    """The rule with another argument of a kind, in its place."""
    told = type(kind)(**{**vars(kind), **parts})
    return but(rule, kinds=[told if other is kind else other for other in rule.kinds])


def greater_rules(draw, rule):
    """Rules near this one by which no claim lapses sooner."""
    found = [but(rule, length=rule.length + 1), but(rule, cap=None)]
    if len(rule) < 2:
        found.append(rule + drawn_kind(draw, "more"))
    if rule.cap is not None:
        found.append(but(rule, cap=rule.cap + 1))
        found.append(but(rule, cap=10))
    if len(rule.rests) < 6:
        found.append(but(rule, rests=[*rule.rests, draw.choice(sorted({*range(7)} - {*rule.rests}))]))
    for kind in rule.kinds:
        found.append(with_kind(rule, kind, times=None))
        if isinstance(kind, Still):
            found.append(with_kind(rule, kind, days=kind.days + 1))
        elif isinstance(kind, Anew):
            found.append(with_kind(rule, kind, left=kind.left + 1))
        else:
            found += [with_kind(rule, kind, by=kind.by + 1), with_kind(rule, kind, top=kind.top + 1)]
    return found


class Compared(unittest.TestCase):
    def assert_told(self, story, p, q, days):
        """A story, read from its text, lapses by both rules as it should."""
        self.assertIsInstance(story, Story)
        again = Story.read(str(story))
        lapses = (lapse_of(p, again), lapse_of(q, again))
        self.assertEqual((lapse(p, again), lapse(q, again)), lapses)
        self.assertEqual((lapse(p, story), lapse(q, story)), lapses)
        self.assertIn(lapses.index(min(lapses)), days, (str(p), str(q)))
        self.assertNotEqual(*lapses)
        self.assertEqual(min(lapses), days[lapses.index(min(lapses))], (str(p), str(q)))

    def assert_way(self, p, q, first, second):
        """Everything about p beside q, in this order; the days are the first ones with which just one lapses."""
        text = f"{p}\n\n{q}"
        self.assertIs(never_sooner(p, q), first is None, text)
        if first is None:
            self.assertIsNone(sooner(p, q), text)
        else:
            self.assert_told(sooner(p, q), p, q, {0: first})
        self.assertIs(alike(p, q), first is None and second is None, text)
        if first is None and second is None:
            self.assertIsNone(parting(p, q), text)
            return
        days = {at: day for at, day in enumerate((first, second)) if day is not None}
        earliest = min(days.values())
        self.assert_told(parting(p, q), p, q, {at: day for at, day in days.items() if day == earliest})

    def assert_compared(self, p, q):
        ahead = (str(p), str(q))
        first, second = first_partings(p, q)
        self.assert_way(p, q, first, second)
        self.assert_way(q, p, second, first)
        self.assertEqual((str(p), str(q)), ahead)
        return first, second


class Calling(Compared):
    def test_parameter_names(self):
        p, q = Rule(3), Rule(4)
        self.assertIs(never_sooner(q=q, p=p), False)
        self.assertIs(never_sooner(q=p, p=q), True)
        self.assertEqual(sooner(q=q, p=p).occasions, ())
        self.assertIsNone(sooner(q=p, p=q))
        self.assertIs(alike(q=q, p=p), False)
        self.assertEqual(parting(q=q, p=p).occasions, ())


class ByHand(Compared):
    def assert_days(self, p, q, first, second):
        p, q = Rule.read(p), Rule.read(q)
        self.assertEqual(self.assert_compared(p, q), (first, second))

    def test_without_kinds(self):
        self.assert_days("term 3 rests none cap none", "term 3 rests none cap none", None, None)
        self.assert_days("term 3 rests none cap none", "term 4 rests none cap none", 2, None)
        # Both end with day 3, the first one because the days 1 and 2 are rest days.
        self.assert_days("term 2 rests 1 2 cap none", "term 4 rests none cap none", None, None)
        self.assert_days("term 4 rests none cap 3", "term 3 rests none cap 9", None, None)
        self.assert_days("term 4 rests none cap 3", "term 4 rests none cap 4", 2, None)
        self.assert_days("term 1 rests 0 1 2 3 4 5 cap none", "term 1 rests 0 1 2 3 4 6 cap none", None, 5)

    def test_each_can_lapse_sooner(self):
        p, q = "term 3 rests none cap none\nanew owe 2 any", "term 3 rests none cap none\nanew owe 3 1"
        # One owing on day 2 leaves a day more by q; but on day 0 it is used up there, and only by p it helps again.
        self.assert_days(p, q, 2, 2)
        self.assert_days("term 2 rests none cap none\nstill a 2 1", "term 2 rests none cap none\nstill b 2 1", 1, 1)
        self.assert_days("term 4 rests none cap none", "term 2 rests none cap none\nstill a 2 any", 3, 1)

    def test_a_name_that_only_one_rule_has(self):
        self.assert_days("term 2 rests none cap none", "term 2 rests none cap none\nanew owe 4 1", 1, None)
        self.assert_days("term 2 rests none cap none\nanew one 1 any", "term 2 rests none cap none", None, None)
        # On day 2, behind a rest day, no day is left; one more makes no difference.
        self.assert_days("term 2 rests 1 cap none\nanew one 1 any", "term 2 rests 1 cap none", None, None)

    def test_an_idle_kind_that_makes_another_one_worth_more(self):
        # On day 2 no day is left: with one more, the lifting moves the last day.
        p, q = "term 2 rests 1 cap none\nlift plea 1 2 1", "term 2 rests 1 cap none\nlift plea 1 2 1\nanew one 1 any"
        self.assert_days(p, q, 2, None)

    def test_short_occasions_tell_stills_from_one_another(self):
        p, q = "term 2 rests none cap none\nstill talk 2 1", "term 2 rests none cap none\nstill talk 1 1"
        self.assert_days(p, q, None, 2)
        # By a talk of two days both end with day 2; a talk of one day is worth a day less by p.
        p, q = "term 1 rests none cap none\nstill talk 2 1", "term 1 rests none cap none\nanew talk 3 1"
        self.assert_days(p, q, 1, None)

    def test_times_that_are_used_up(self):
        # An owing on day 0 changes nothing; by p none counts behind it.
        p, q = "term 4 rests none cap none\nanew owe 4 1", "term 4 rests none cap none\nanew owe 4 any"
        self.assert_days(p, q, 3, None)

    def test_caps(self):
        kind = "\nstill a 2 any"
        self.assert_days("term 1 rests none cap 10" + kind, "term 1 rests none cap none" + kind, 9, None)
        self.assert_days("term 1 rests none cap 10" + kind, "term 1 rests none cap 9" + kind, None, 8)
        self.assert_days("term 4 rests 5 6 cap 10" + kind, "term 4 rests 5 6 cap 10" + kind, None, None)
        # The claim can only live up to day 3: this cap is never seen.
        self.assert_days("term 3 rests none cap 10\nstill a 1 1", "term 3 rests none cap 4\nstill a 1 1", None, None)
        self.assert_days("term 3 rests none cap 10\nstill a 1 1", "term 3 rests none cap 3\nstill a 1 1", None, 2)

    def test_a_difference_that_comes_weeks_later(self):
        # Only on day 6, the first rest day by q alone, both differ.
        p, q = "term 1 rests none cap none\nstill a 1 any", "term 1 rests 6 cap none\nstill a 1 any"
        self.assert_days(p, q, 6, None)
        # Lifted each third day from day 3 on, p has a day more; this is first seen on day 17, which is a working day.
        p, q = "term 4 rests 0 1 2 4 5 6 cap {}\nlift a 3 4 any", "term 3 rests 0 1 2 4 5 6 cap {}\nlift a 3 4 any"
        for cap, day in (("none", 17), (19, 17), (18, None), (10, None), (4, None), (3, None)):
            self.assert_days(p.format(cap), q.format(cap), None, day)
        self.assert_days(p.format("none"), q.format(10), None, 9)
        self.assert_days(p.format(9), q.format(10), 8, None)
        # Here on day 14.
        p, q = "term 4 rests 1 2 3 4 5 6 cap {}\nlift b 2 3 any", "term 3 rests 1 2 3 4 5 6 cap {}\nlift b 2 3 any"
        for cap, day in (("none", 14), (16, 14), (15, None), (10, None)):
            self.assert_days(p.format(cap), q.format(cap), None, day)

    def test_beyond_the_limits(self):
        kinds = [Still("a", 5, 3), Anew("b", 7, 2), Lift("c", 2, 6)]
        p, q = Rule(8, [5, 6], 40, kinds), Rule(9, [6], None, kinds[::-1])
        self.assertEqual(lapse(p, sooner(p, q)), first_partings(p, q)[0])
        self.assertEqual(lapse(q, sooner(q, p)), first_partings(p, q)[1])
        self.assertIs(alike(p, Rule(8, (6, 5), 40, kinds[::-1])), True)


class Search(Compared):
    """Against a search over all stories."""

    def test_drawn_pairs(self):
        draw = random.Random(150)
        found = {(True, True): 0, (True, False): 0, (False, True): 0, (False, False): 0}
        for _ in range(400):
            names = draw.choice([NAMES, NAMES[:2], NAMES[:3]])
            first, second = self.assert_compared(drawn_rule(draw, names), drawn_rule(draw, names))
            found[first is None, second is None] += 1
        self.assertGreater(min(found.values()), 5, found)

    def test_drawn_pairs_of_the_same_length(self):
        draw = random.Random(151)
        for _ in range(250):
            p, q = drawn_rule(draw, NAMES[:2], cap=False), drawn_rule(draw, NAMES[:2], cap=False)
            self.assert_compared(p, but(q, length=p.length, rests=draw.choice([p.rests, q.rests])))

    def test_greater_rules(self):
        draw = random.Random(152)
        for _ in range(70):
            rule = drawn_rule(draw)
            for greater in greater_rules(draw, rule):
                _, second = self.assert_compared(greater, rule)
                self.assertIs(never_sooner(greater, rule), True, (str(greater), str(rule)))

    def test_rules_that_are_alike(self):
        draw = random.Random(153)
        for _ in range(120):
            rule = drawn_rule(draw)
            same = but(rule, kinds=rule.kinds[::-1], rests=rule.rests[::-1])
            self.assertEqual(self.assert_compared(rule, same), (None, None))
            self.assertIs(alike(rule, rule), True)
            self.assertIs(alike(rule, Rule.read(str(rule))), True)
            # Without rest days, a day is left on each day of a living claim.
            plain = but(rule, rests=(), kinds=rule.kinds[:1])
            for idle in IDLE:
                self.assertEqual(self.assert_compared(plain, plain + idle), (None, None))
            self.assert_compared(but(rule, kinds=rule.kinds[:1]), but(rule, kinds=[*rule.kinds[:1], draw.choice(IDLE)]))

    def test_near_and_far_caps(self):
        draw = random.Random(154)
        for _ in range(60):
            rule = drawn_rule(draw)
            for one, two in ((1, 2), (9, 10), (10, None), (rule.length, rule.length + 1), (3, 10)):
                self.assert_compared(but(rule, cap=one), but(rule, cap=two))


class Great(Compared):
    """At the limits of point [3]."""

    def test_the_greatest_numbers(self):
        draw = random.Random(155)
        kinds = [
            [make("a", times), other(name, more)]
            for make, other in itertools.product(
                [lambda *told: Still(told[0], 2, told[1]), lambda *told: Anew(told[0], 4, told[1]),
                 lambda *told: Lift(told[0], 4, 4, told[1]), lambda *told: Lift(told[0], 1, 4, told[1])], repeat=2)
            for name in "bc" for times in (1, None) for more in (1, None)
        ]
        for _ in range(120):
            p, q = [
                Rule(4, draw.sample(range(7), draw.randint(0, 6)), draw.choice([None, 10]), draw.choice(kinds))
                for _ in range(2)
            ]
            self.assert_compared(p, q)

    def test_all_rest_days(self):
        kinds = [Still("a", 2), Lift("b", 1, 4, 1)]
        for many in range(7):
            for rests in itertools.combinations(range(7), many):
                p = Rule(4, rests, None, kinds)
                for cap in (None, 10):
                    q = Rule(4, (5, 6), cap, kinds[::-1])
                    self.assertIs(never_sooner(p, q), sooner(p, q) is None)
                    self.assertIs(alike(p, q), cap is None and rests == (5, 6))
                    story = parting(p, q)
                    if story is not None:
                        self.assertNotEqual(lapse(p, story), lapse(q, story))
