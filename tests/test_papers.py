"""Point [14]: papers."""

import itertools
import random
import unittest

from tests.any_values import any_values, nested
from tests.by_days import drawn_rules
from termstill.bounds import latest
from termstill.kinds import Anew, Lift, Still
from termstill.papers import paper, paper_holds
from termstill.rules import Rule

BIG = 10**18
RULE = Rule.read("term 10 rests 5 6 cap none\nstill talk 3 1\nanew owe 5 1\nlift plea 2 4 1")
IDLE = Rule(4, [3, 4], None, [Lift("plea", 1, 2, 1), Anew("one", 1), Still("talk", 2, 2)])


def working(rule, day):
    return day % 7 not in rule.rests


def put_off(rule, day):
    return next(later for later in range(day, day + 8) if working(rule, later))


def led(rule, pair, kind):
    """Where point [11] leads."""
    day, left = pair
    if isinstance(kind, Still):
        day = day + kind.days
    else:
        if isinstance(kind, Anew):
            left = max(left, kind.left)
        else:
            left = max(left, min(left + kind.by, kind.top))
        day, left = day + left - 1, 1
    return (day, left) if working(rule, day) else (put_off(rule, day), 0)


def at_first(rule):
    day = rule.length - 1
    return (day, 1) if working(rule, day) else (put_off(rule, day), 0)


def is_right(rule, day, told):
    """Whether a tuple of triples of the right kinds of values is a right paper, as point [14] tells."""
    counts = itertools.product(*[range((kind.times or 0) + 1) for kind in rule.kinds])
    if sorted(count for count, _, _ in told) != list(counts):
        return False
    pairs = {count: (last, left) for count, last, left in told}
    if pairs[(0,) * len(rule)] < at_first(rule) or any(last > day for _, last, _ in told):
        return False
    for count, pair in pairs.items():
        for at, kind in enumerate(rule.kinds):
            behind = list(count)
            if kind.times is not None:
                behind[at] += 1
                if behind[at] > kind.times:
                    continue
            if pairs[tuple(behind)] < led(rule, pair, kind):
                return False
    return True


def uncapped(rule):
    return Rule(rule.length, rule.rests, None, rule.kinds)


def spoilt(told, changed):
    """The paper with another triple at its place, or without it."""
    return [(*told[:at], *changed(*told[at]), *told[at + 1 :]) for at in range(len(told))]


class Calling(unittest.TestCase):
    def test_parameter_names(self):
        told = paper(day=21, rule=RULE)
        self.assertIs(paper_holds(value=told, day=21, rule=RULE), True)

    def test_by_hand(self):
        rule = Rule(2, [1, 2], None, [Anew("owe", 3, 2)])
        told = (((0,), 3, 0), ((1,), 5, 1), ((2,), 7, 1))
        self.assertTrue(is_right(rule, 7, told))
        self.assertIs(paper_holds(rule, 7, told), True)
        self.assertIs(paper_holds(rule, 6, told), False)
        self.assertEqual(sorted(paper(rule, 7)), sorted(told))

    def test_without_kinds(self):
        rule = Rule(3, [2], None)
        self.assertEqual(paper(rule, 3), (((), 3, 0),))
        self.assertIsNone(paper(rule, 2))
        for value, holds in [((((), 3, 0),), True), ((((), 3, 1),), True), ((((), 2, 1),), False), ((), False)]:
            self.assertIs(paper_holds(rule, 3, value), holds)


class Telling(unittest.TestCase):
    def assert_paper(self, rule, day, there):
        told = paper(rule, day)
        self.assertEqual(told is not None, there, (str(rule), day))
        if told is None:
            return
        self.assertIs(type(told), tuple)
        self.assertIs(paper_holds(rule, day, told), True, (str(rule), day))
        self.assertTrue(told == () and rule.cap <= day + 1 or is_right(rule, day, told), (str(rule), day))
        self.assertEqual(paper(rule, day), told)

    def test_a_paper_is_told_just_where_no_story_lapses_later(self):
        rules = drawn_rules(120, 250) + drawn_rules(121, 150, times=(1, 2, 3), greatest=3)
        rules += [rule + Anew("one", 1) + Lift("top", 2, 1) for rule in drawn_rules(122, 150, most_kinds=2)]
        for rule in rules:
            last = latest(rule)
            if last is None:
                for day in (0, 50, BIG):
                    self.assertIsNone(paper(rule, day), str(rule))
                    self.assertIs(paper_holds(rule, day, ()), False)
                continue
            for day in (0, last - 1, last, last + 1, last + 50, BIG):
                if day >= 0:
                    self.assert_paper(rule, day, day >= last)

    def test_the_cap(self):
        for cap, day in itertools.product((1, 5, 9, 10, 11, 30), (0, 3, 4, 5, 8, 9, 10, 29, 30)):
            for kinds in ((), [Still("a", 3)], [Anew("b", 2, 1)]):
                rule = Rule(9, [5, 6], cap, kinds)
                self.assertIs(paper_holds(rule, day, ()), cap <= day + 1)
                self.assert_paper(rule, day, day >= latest(rule))
                self.assertIs(paper_holds(rule, day, []), False)

    def test_triples_are_right_with_a_cap_too(self):
        told = paper(RULE, 21)
        for cap in (1, 20, 21, 22, 23, 40):
            rule = Rule(RULE.length, RULE.rests, cap, RULE.kinds)
            self.assertIs(paper_holds(rule, 21, told), True)
            # The pairs do not know of the cap.
            self.assertIs(paper_holds(rule, 20, told), False)

    def test_great_numbers(self):
        kinds = [Still("a", BIG, 3), Anew("b", BIG, 3), Lift("c", BIG, BIG, 3), Lift("d", 1, BIG, 3)]
        for rule in (Rule(BIG, (0, 1, 2, 3, 4, 5), None, kinds), Rule(BIG, (5, 6), BIG, kinds)):
            last = latest(uncapped(rule))
            told = paper(uncapped(rule), last)
            self.assertEqual(len(told), 256)
            self.assertTrue(is_right(rule, last, told))
            self.assertIs(paper_holds(rule, last, told), True)
            self.assertIs(paper_holds(rule, last - 1, told), False)
        self.assertEqual(paper(Rule(BIG, (), BIG, [Still("a", 1)]), BIG - 1), ())
        self.assertIsNone(paper(Rule(BIG, (), BIG, [Still("a", 1)]), BIG - 2))


class Holding(unittest.TestCase):
    def assert_holds(self, rule, day, value, holds):
        self.assertIs(paper_holds(rule, day, value), holds, (str(rule), day, value))

    def test_triples_in_another_order(self):
        draw = random.Random(14)
        for rule, day in ((RULE, 21), (IDLE, latest(IDLE))):
            told = list(paper(rule, day))
            for _ in range(20):
                draw.shuffle(told)
                self.assert_holds(rule, day, tuple(told), True)
            self.assert_holds(rule, day, tuple(told[::-1]), True)

    def test_greater_pairs(self):
        for rule in (RULE, IDLE):
            told = tuple((count, last + 60, 1) for count, last, left in paper(rule, 40))
            day = max(last for _, last, _ in told)
            self.assert_holds(rule, day, told, is_right(rule, day, told))

    def test_a_last_day_that_is_no_working_day(self):
        rule = Rule(3, [3, 4], None, [Still("a", 1, 1)])
        # From day 3, a rest day, a still of a day leads to day 5, to which day 4 is put off.
        self.assert_holds(rule, 5, (((0,), 3, 0), ((1,), 5, 0)), True)
        self.assert_holds(rule, 5, (((0,), 3, 1), ((1,), 5, 1)), True)
        self.assert_holds(rule, 5, (((0,), 4, 1), ((1,), 5, 0)), False)
        self.assert_holds(rule, 5, (((0,), 4, 1), ((1,), 5, 1)), True)
        self.assert_holds(rule, 6, (((0,), 2, 1), ((1,), 4, 1)), False)
        rule = Rule(3, [3, 4], None, [Anew("a", 1, 1)])
        self.assert_holds(rule, 5, (((0,), 3, 0), ((1,), 5, 0)), True)
        self.assert_holds(rule, 5, (((0,), 3, 0), ((1,), 4, 1)), False)
        # Without a kind the last day may be any.
        self.assert_holds(Rule(3, [3, 4]), 4, (((), 4, 0),), True)

    def test_idle_kinds_lead_to_the_pair_itself(self):
        rule = Rule(4, [3, 4], None, [Anew("one", 1)])
        self.assertEqual(paper(rule, 5), (((0,), 5, 1),))
        self.assert_holds(rule, 5, (((0,), 5, 0),), False)
        # On a rest day the pair leads to one behind it.
        self.assert_holds(rule, 12, (((0,), 10, 1),), False)
        self.assert_holds(rule, 12, (((0,), 12, 1),), True)
        self.assert_holds(rule, 5, (((0,), 5, 1), ((1,), 5, 1)), False)

    def test_lesser_pairs(self):
        for rule, day in ((RULE, 21), (IDLE, latest(IDLE))):
            told = paper(rule, day)
            least = {count: (last, left) for count, last, left in told}
            for value in spoilt(told, lambda count, last, left: [(count, last, 0)] if left else [(count, last - 1, 1)]):
                self.assertFalse(is_right(rule, day, value))
                self.assert_holds(rule, day, value, False)
            for value in spoilt(told, lambda count, last, left: [(count, -last, left)]):
                self.assert_holds(rule, day, value, False)
            self.assertEqual(len(least), len(told))

    def test_entries_left_out_and_there_twice(self):
        for rule, day in ((RULE, 21), (IDLE, latest(IDLE))):
            told = paper(rule, day)
            for changed in (
                lambda *triple: [],
                lambda *triple: [triple, triple],
                lambda count, last, left: [(count, last, left), (count, last, 0)],
                lambda count, last, left: [(count[1:], last, left)],
                lambda count, last, left: [((*count, 0), last, left)],
                lambda count, last, left: [((count[0] + 5, *count[1:]), last, left)],
                lambda count, last, left: [((count[0] - 5, *count[1:]), last, left)],
                lambda count, last, left: [(count, last, left), ((7, 7, 7), last, left)],
                lambda count, last, left: [(count, last, left), ((), last, left)],
                lambda count, last, left: [(count, last, left), None],
            ):
                for value in spoilt(told, changed):
                    self.assert_holds(rule, day, value, False)
            self.assert_holds(rule, day, (), False)

    def test_wrong_kinds_of_values(self):
        for rule, day in ((RULE, 21), (IDLE, latest(IDLE))):
            told = paper(rule, day)
            self.assert_holds(rule, day, list(told), False)
            for changed in (
                lambda *triple: [list(triple)],
                lambda count, last, left: [(list(count), last, left)],
                lambda count, last, left: [(tuple(bool(many) for many in count), last, left)],
                lambda count, last, left: [((False, *count[1:]), last, left)],
                lambda count, last, left: [(count, last, bool(left))],
                lambda count, last, left: [(count, True, left)],
                lambda count, last, left: [(count, str(last), left)],
                lambda count, last, left: [(count, None, left)],
                lambda count, last, left: [(count, last, None)],
                lambda count, last, left: [(count, last, 2)],
                lambda count, last, left: [(count, last, -1)],
                lambda count, last, left: [(count, last, (left,))],
                lambda count, last, left: [(count, (last, left))],
                lambda count, last, left: [(count, last)],
                lambda count, last, left: [(count, last, left, 0)],
                lambda count, last, left: [(*count, last, left)],
                lambda count, last, left: [(sum(count), last, left)],
                lambda count, last, left: [(None, last, left)],
            ):
                for value in spoilt(told, changed):
                    self.assert_holds(rule, day, value, False)

    def test_a_day_that_is_too_late(self):
        for rule, day in ((RULE, 21), (IDLE, latest(IDLE))):
            told = paper(rule, day)
            for value in spoilt(told, lambda count, last, left: [(count, day + 1, left)]):
                self.assert_holds(rule, day, value, False)
                self.assert_holds(rule, day + 9, value, is_right(rule, day + 9, value))

    def test_any_value(self):
        for rule in (RULE, IDLE, Rule(3), Rule(3, (), 5)):
            for value in any_values():
                for one in (
                    value, (value,), [value], (value, value), ((value, 9, 1),), (((), value, 1),), (((), 9, value),),
                    (((value,), 9, 1),), (((0, 0, value), 9, 1),), ((value, value, value),), nested(value, 7, tuple),
                ):
                    # Of these only few are papers: with `()` as the count, for rules without kinds.
                    papers = [(((), last, left),) for last in (2, 6, 7) for left in (0, 1)]
                    bools = "True" in repr(one) or "False" in repr(one)
                    right = len(rule) == 0 and one in papers and not bools and is_right(rule, 8, one)
                    self.assert_holds(rule, 8, one, right or one == () and rule.cap is not None)
        told = paper(RULE, 21)
        for deep in range(1, 6):
            self.assert_holds(RULE, 21, nested(told, deep, tuple), False)
            self.assert_holds(RULE, 21, nested(told, deep), False)

    def test_drawn_changes(self):
        draw = random.Random(15)
        right = 0
        for rule in drawn_rules(140, 250, most_kinds=3, times=(1, 2, None)):
            last = latest(uncapped(rule))
            if last is None:
                continue
            day = last + draw.randint(0, 3)
            for _ in range(12):
                told = list(paper(uncapped(rule), day))
                for _ in range(draw.randint(0, 3)):
                    at = draw.randrange(len(told))
                    count, end, _ = told[at]
                    told[at] = (count, end + draw.choice([-1, 0, 1, 2, 7]), draw.randint(0, 1))
                expected = is_right(rule, day, tuple(told))
                self.assert_holds(rule, day, tuple(told), expected)
                right += expected
        # Both are there.
        self.assertGreater(right, 100)
