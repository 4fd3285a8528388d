"""Points [12] and [13]: all stories."""

import itertools
import unittest

from tests.by_days import FAR, drawn_rules, latest_lapse, latest_lapses, told
from termstill.bounds import fewest, keepers, latest, latest_by, latest_story, needless
from termstill.kinds import Anew, Lift, Still
from termstill.lapses import counted, lapse
from termstill.rules import Rule

BIG = 10**18
RULE = Rule.read("term 10 rests 5 6 cap none\nstill talk 3 1\nanew owe 5 1\nlift plea 2 4 1")
# Kinds of any number of times by which a claim can live for ever, and those by which it can not.
ENDLESS = [Still("a", 1), Anew("b", 2), Lift("c", 1, 2), Lift("d", 9, 2), Still("e", BIG), Lift("f", 1, BIG)]
IDLE = [Anew("g", 1), Lift("h", 1, 1), Lift("i", BIG, 1)]


def all_parts(names):
    names = sorted(names)
    return [part for many in range(len(names) + 1) for part in itertools.combinations(names, many)]


def least_parts(names, enough):
    """All parts that are enough, none of whose proper parts is."""
    parts = [part for part in all_parts(names) if enough(part)]
    return tuple(part for part in parts if not [other for other in parts if set(other) < set(part)])


class Calling(unittest.TestCase):
    def test_parameter_names(self):
        self.assertEqual(latest(rule=RULE), 21)
        self.assertEqual(lapse(RULE, latest_story(rule=RULE)), 21)
        self.assertEqual(latest_by(most=2, rule=RULE), 18)
        self.assertEqual(fewest(day=14, rule=RULE), 1)
        self.assertEqual(keepers(day=14, rule=RULE), (("owe",), ("talk",)))
        self.assertEqual(needless(rule=RULE), ())


class Search(unittest.TestCase):
    """Against a search over all stories."""

    def assert_latest(self, rule):
        last = latest_lapse(rule)
        self.assertEqual(latest(rule), last, str(rule))
        story = latest_story(rule)
        if last is None:
            self.assertIsNone(story, str(rule))
            return
        # Each of its occasions counts.
        expected = (last, tuple(range(len(story))))
        self.assertEqual(told(rule, story)[:2], expected, str(rule))
        self.assertEqual((lapse(rule, story), counted(rule, story)), expected, str(rule))

    def test_latest(self):
        for rule in drawn_rules(120, 250):
            self.assert_latest(rule)

    def test_latest_without_endless_kinds(self):
        for rule in drawn_rules(121, 200, times=(1, 2, 3), greatest=3):
            self.assert_latest(rule)

    def test_latest_with_kinds_that_gain_nothing(self):
        for rule in drawn_rules(122, 150, most_kinds=2):
            self.assert_latest(rule.only([]) + Anew("one", 1))
            self.assert_latest(rule + Anew("one", 1) + Lift("top", 2, 1))
            self.assert_latest(rule.only(rule.names[:1]) + Lift("top", 1, 1) + Lift("more", 1, 3, 2))

    def test_latest_by_and_fewest(self):
        most = 5
        for rule in drawn_rules(123, 200, most_kinds=3):
            lapses = latest_lapses(rule, most)
            self.assertNotIn(FAR, lapses)
            self.assertEqual([latest_by(rule, many) for many in range(most + 1)], lapses, str(rule))
            expected = [[many for many in range(most + 1) if lapses[many] >= day][0] for day in range(lapses[-1] + 1)]
            self.assertEqual([fewest(rule, day) for day in range(lapses[-1] + 1)], expected, str(rule))

    def test_latest_by_and_fewest_up_to_the_latest(self):
        for rule in drawn_rules(124, 60, times=(1, 2), greatest=3):
            most = sum(kind.times for kind in rule.kinds)
            lapses = latest_lapses(rule, most + 2)
            self.assertEqual([latest_by(rule, many) for many in range(most + 3)], lapses, str(rule))
            self.assertEqual(lapses[most], latest(rule))
            days = [fewest(rule, day) for day in range(lapses[-1] + 4)]
            for day, many in enumerate(days):
                enough = [some for some in range(most + 1) if lapses[some] >= day]
                self.assertEqual(many, enough[0] if enough else None, str(rule))
            self.assertEqual(days[-3:], [None] * 3)

    def test_keepers_and_needless(self):
        for rule in drawn_rules(130, 120, most_kinds=4, greatest=3, longest=6):
            text = str(rule)
            lasts = {part: latest_lapse(rule.only(part)) for part in all_parts(rule.names)}
            ends = {last for last in lasts.values() if last is not None}
            for day in sorted({0} | {day for end in ends for day in (max(end - 1, 0), end, end + 1)}):
                expected = least_parts(rule.names, lambda part: lasts[part] is None or lasts[part] >= day)
                self.assertEqual(keepers(rule, day), expected, text)
            self.assertEqual(keepers(rule, None), least_parts(rule.names, lambda part: lasts[part] is None), text)
            whole = lasts[tuple(sorted(rule.names))]
            expected = [
                name for name in sorted(rule.names)
                if lasts[tuple(other for other in sorted(rule.names) if other != name)] == whole
            ]
            self.assertEqual(needless(rule), tuple(expected), text)
            self.assertEqual(str(rule), text)


class ForEver(unittest.TestCase):
    def test_endless_kinds(self):
        for rests, kind in itertools.product([(), (5, 6), (0, 1, 2, 3, 4, 5)], ENDLESS):
            for more in ((), IDLE, [Still("x", 2, 1), Anew("y", BIG, 3)]):
                rule = Rule(8, rests, None, [*more, kind])
                self.assertIsNone(latest(rule))
                self.assertIsNone(latest_story(rule))
                self.assertEqual(keepers(rule, None), ((kind.name,),))
                self.assertEqual(keepers(rule.only(rule.names[:-1]), None), ())
                self.assertNotIn(kind.name, needless(rule))
                self.assertEqual(needless(rule), tuple(sorted(rule.names[:-1])))

    def test_idle_kinds(self):
        for kind in IDLE:
            for rests in ((), (3, 4), (0, 1, 2, 3, 4, 5)):
                rule = Rule(4, rests, None, [kind])
                last = rule.work(3)
                self.assertEqual(latest(rule), last)
                self.assertEqual(keepers(rule, None), ())
                self.assertEqual(needless(rule), (kind.name,))
                self.assertEqual((fewest(rule, last), fewest(rule, last + 1)), (0, None))
                self.assertEqual([latest_by(rule, most) for most in (0, 1, 12)], [last] * 3)

    def test_an_idle_kind_makes_another_one_worth_more(self):
        # The last day is put off to day 5; only with a day left then does the lifting move it.
        rule = Rule(4, [3, 4], None, [Lift("plea", 1, 2, 1), Anew("one", 1)])
        self.assertEqual(latest(rule), 6)
        self.assertEqual((fewest(rule, 5), fewest(rule, 6), latest_by(rule, 1), latest_by(rule, 2)), (0, 2, 5, 6))
        self.assertEqual(keepers(rule, 6), (("one", "plea"),))
        self.assertEqual(lapse(rule, latest_story(rule)), 6)
        self.assertEqual(counted(rule, latest_story(rule)), tuple(range(len(latest_story(rule)))))

    def test_kinds_of_few_times_do_not_make_a_claim_live_for_ever(self):
        kinds = [Still("a", BIG, 3), Anew("b", BIG, 3), Lift("c", BIG, BIG, 3)]
        self.assertEqual(latest(Rule(1, (), None, kinds)), 9 * BIG - 6)
        self.assertEqual(keepers(Rule(1, (), None, kinds), None), ())

    def test_several_endless_kinds(self):
        rule = Rule(3, (), None, [Still("zz", 1), Anew("b", 1), Lift("c", 1, 2), Anew("aa", 2, 3)])
        self.assertEqual(keepers(rule, None), (("c",), ("zz",)))
        self.assertEqual(needless(rule), ("aa", "b", "c", "zz"))

    def test_caps(self):
        for kind, cap in itertools.product(ENDLESS, (1, 2, 7, 8, 9, 15, 60, 208)):
            rule = Rule(8, (5, 6), cap, [kind])
            self.assertEqual(latest(rule), cap - 1)
            self.assertEqual(keepers(rule, None), ())
            story = latest_story(rule)
            self.assertEqual((lapse(rule, story), counted(rule, story)), (cap - 1, tuple(range(len(story)))))
            self.assertIsNone(fewest(rule, cap))
            self.assertEqual(latest_by(rule, fewest(rule, cap - 1)), cap - 1)
            self.assertEqual(keepers(rule, cap), ())
            self.assertEqual(keepers(rule, cap - 1), ((kind.name,),) if cap > 8 else ((),))
            self.assertEqual(needless(rule), () if cap > 8 else (kind.name,))


class Sets(unittest.TestCase):
    """Point [13]: the order of the sets and the names."""

    def test_shorter_ones_first(self):
        rule = Rule(2, (), None, [Still("d", 2, 1), Still("c", 4, 1), Still("b", 2, 1), Still("a", 1, 1)])
        self.assertEqual(latest(rule), 10)
        self.assertEqual(keepers(rule, 1), ((),))
        self.assertEqual(keepers(rule, 2), (("a",), ("b",), ("c",), ("d",)))
        self.assertEqual(keepers(rule, 3), (("b",), ("c",), ("d",)))
        self.assertEqual(keepers(rule, 5), (("c",), ("b", "d")))
        self.assertEqual(keepers(rule, 6), (("a", "c"), ("b", "c"), ("c", "d"), ("a", "b", "d")))
        self.assertEqual(keepers(rule, 10), (("a", "b", "c", "d"),))
        self.assertEqual(keepers(rule, 11), ())
        self.assertEqual(keepers(rule, BIG), ())
        self.assertEqual(needless(rule), ())

    def test_no_kinds(self):
        rule = Rule(2, [1], None)
        self.assertEqual((latest(rule), latest_story(rule).occasions, latest_by(rule, 12)), (2, (), 2))
        self.assertEqual((fewest(rule, 2), fewest(rule, 3)), (0, None))
        self.assertEqual((keepers(rule, 2), keepers(rule, 3), keepers(rule, None), needless(rule)), (((),), (), (), ()))

    def test_needless_ascending(self):
        rule = Rule(9, (), 12, [Still("z", 3, 1), Anew("b", 2, 1), Still("a", 3, 1), Lift("m", 1, 1, 1)])
        self.assertEqual(needless(rule), ("a", "b", "m", "z"))
        self.assertEqual(needless(Rule(9, (), 14, rule.kinds)), ("b", "m"))
        self.assertEqual(needless(Rule(9, (), None, rule.kinds)), ("m",))


class Great(unittest.TestCase):
    """At the limits of point [3]."""

    def test_three_times_four_kinds(self):
        kinds = [Still("a", BIG, 3), Anew("b", BIG, 3), Lift("c", BIG, BIG, 3), Lift("d", 1, BIG, 3)]
        rule = Rule(BIG, (), None, kinds)
        # Anews and lifts to the top gain BIG - 1 days each; a day more is lifted upon one that is left.
        self.assertEqual(latest(rule), BIG - 1 + 3 * BIG + 6 * (BIG - 1) + 3)
        story = latest_story(rule)
        self.assertEqual((lapse(rule, story), counted(rule, story)), (latest(rule), tuple(range(12))))
        self.assertEqual(latest_by(rule, 0), BIG - 1)
        self.assertEqual(latest_by(rule, 2), 3 * BIG - 1)
        self.assertEqual(latest_by(rule, 12), latest(rule))
        self.assertEqual([fewest(rule, day) for day in (0, BIG - 1, BIG, BIG + 200)], [0, 0, 1, 1])
        self.assertEqual(keepers(rule, BIG), (("a",), ("b",), ("c",), ("d",)))
        self.assertEqual(keepers(rule, latest(rule)), (("a", "b", "c", "d"),))
        self.assertEqual(needless(rule), ())

    def test_a_cap_of_the_greatest_size(self):
        rule = Rule(BIG - 200, (0, 1, 2, 3, 4, 5), BIG, [Lift("a", 1, 2), Still("b", 1, 3), Anew("c", 1, 3)])
        self.assertEqual(latest(rule), BIG - 1)
        story = latest_story(rule)
        self.assertEqual((lapse(rule, story), counted(rule, story)), (BIG - 1, tuple(range(len(story)))))
        self.assertEqual(keepers(rule, BIG - 1), (("a",),))
        self.assertEqual(latest_by(rule, fewest(rule, BIG - 1)), BIG - 1)
        self.assertLess(latest_by(rule, fewest(rule, BIG - 1) - 1), BIG - 1)
        far = Rule(5, (), BIG, [Still("a", BIG - 6, 1), Still("b", BIG, 2), Anew("c", 3, 3)])
        story = latest_story(far)
        self.assertEqual((lapse(far, story), counted(far, story)), (BIG - 1, tuple(range(len(story)))))
        self.assertEqual(keepers(far, BIG - 1), (("b",), ("a", "c")))

    def test_two_hundred_days_by_one_at_a_time(self):
        for kind in (Still("a", 1), Anew("a", 2), Lift("a", 1, 2)):
            rule = Rule(BIG, (), None, [kind, Lift("b", 1, 2, 3), Still("c", 1, 3), Anew("d", 1, 3)])
            self.assertEqual(fewest(rule, BIG + 200), 201)
            self.assertEqual(latest_by(rule, 12), BIG + 11)
            self.assertEqual([fewest(rule, BIG - 1 + many) for many in range(60)], list(range(60)))

    def test_rest_days_on_all_days_but_one(self):
        # On day BIG + 5, a working day as each seventh one, no day is left: one lifting leaves one, the next one moves.
        rule = Rule(BIG, (0, 1, 2, 3, 4, 5), None, [Lift("a", 1, 2)])
        self.assertEqual([latest_by(rule, many) for many in range(5)], [BIG + day for day in (5, 5, 12, 12, 19)])
        self.assertEqual([fewest(rule, BIG + day) for day in (5, 6, 12, 13, 200)], [0, 2, 2, 4, 56])
