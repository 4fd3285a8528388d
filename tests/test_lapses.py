"""Points [8] and [9]: what happens by a told story."""

import random
import unittest

from tests.by_days import drawn_rules, drawn_story, told
from termstill.kinds import Anew, Lift, Still
from termstill.lapses import counted, lapse, standing
from termstill.rules import Rule
from termstill.stories import Story

BIG = 10**18
RULE = Rule.read("term 10 rests 5 6 cap none\nstill talk 3 1\nanew owe 5 1\nlift plea 2 4 1")


class Calling(unittest.TestCase):
    def test_parameter_names(self):
        story = Story([(9, "talk", 3)])
        self.assertEqual(lapse(story=story, rule=RULE), 14)
        self.assertEqual(counted(story=story, rule=RULE), (0,))
        self.assertEqual(standing(day=9, story=story, rule=RULE), (1, 0))


class ByHand(unittest.TestCase):
    def assert_told(self, rule, story, last, indexes):
        rule, story = Rule.read(rule), Story.read(story)
        self.assertEqual((lapse(rule, story), counted(rule, story)), (last, indexes))
        self.assertEqual(told(rule, story)[:2], (last, indexes))

    def test_stills(self):
        rule = "term 5 rests none cap none\nstill talk 3 2\nstill rest 4 any"
        self.assert_told(rule, "", 4, ())
        self.assert_told(rule, "0 talk 1", 5, (0,))
        self.assert_told(rule, "0 talk 3", 7, (0,))
        # Longer than it counts.
        self.assert_told(rule, "0 talk 4", 7, (0,))
        self.assert_told(rule, f"0 talk {BIG}", 7, (0,))
        # While the term stands, anyway: not longer, longer, of another kind.
        self.assert_told(rule, "0 talk 3; 1 talk 2", 7, (0, 1))
        self.assert_told(rule, "0 talk 3; 1 talk 3", 8, (0, 1))
        self.assert_told(rule, "0 rest 4; 1 talk 3; 3 rest 1", 8, (0, 1, 2))
        self.assert_told(rule, "0 talk 1; 0 talk 2; 0 rest 3", 7, (0, 1, 2))
        # The third one of its kind does not count any more, even if the others changed nothing.
        self.assert_told(rule, "0 talk 3; 0 talk 1; 4 talk 3", 7, (0, 1))
        self.assert_told(rule, "4 rest 4; 8 rest 4; 12 rest 1; 13 rest 2", 15, (0, 1, 2, 3))

    def test_anews(self):
        rule = "term 5 rests none cap none\nanew owe 3 2\nanew debt 7 any"
        self.assert_told(rule, "0 owe 1", 4, (0,))
        self.assert_told(rule, "2 owe 1", 4, (0,))
        self.assert_told(rule, "3 owe 9", 5, (0,))
        self.assert_told(rule, "4 owe 1; 6 owe 1; 8 owe 1", 8, (0, 1, 2)[:2])
        self.assert_told(rule, "0 owe 1; 1 owe 1; 4 owe 1; 4 debt 1", 10, (0, 1, 3))
        self.assert_told(rule, "0 debt 1; 0 owe 1; 6 debt 2", 12, (0, 1, 2))

    def test_lifts(self):
        rule = "term 5 rests none cap none\nlift plea 2 4 2\nlift more 3 9 any"
        self.assert_told(rule, "0 plea 1", 4, (0,))
        self.assert_told(rule, "1 plea 1", 4, (0,))
        self.assert_told(rule, "2 plea 1", 5, (0,))
        self.assert_told(rule, "3 plea 1", 6, (0,))
        self.assert_told(rule, "4 plea 1; 4 plea 1; 4 plea 1", 7, (0, 1))
        self.assert_told(rule, "0 more 1; 0 more 1; 0 more 1", 8, (0, 1, 2))
        self.assert_told(rule, "0 more 1; 0 plea 1", 7, (0, 1))

    def test_the_order_on_one_day_matters(self):
        rule = "term 5 rests none cap none\nlift plea 2 9 1\nanew owe 6 1"
        self.assert_told(rule, "4 plea 1; 4 owe 1", 9, (0, 1))
        self.assert_told(rule, "4 owe 1; 4 plea 1", 11, (0, 1))

    def test_rest_days(self):
        rule = "term 6 rests 5 6 cap none\nstill talk 2 any\nanew one 1 any\nanew owe 3 any\nlift plea 1 2 any"
        # The last day was put off to day 7; on day 5 one day is left, on the days 6 and 7 none.
        self.assert_told(rule, "", 7, ())
        self.assert_told(rule, "7 one 1", 7, (0,))
        self.assert_told(rule, "6 one 1", 7, (0,))
        self.assert_told(rule, "5 owe 1", 7, (0,))
        self.assert_told(rule, "6 owe 1", 8, (0,))
        self.assert_told(rule, "7 owe 1", 9, (0,))
        self.assert_told(rule, "7 plea 1", 7, (0,))
        self.assert_told(rule, "7 plea 1; 7 plea 1", 8, (0, 1))
        self.assert_told(rule, "7 talk 2", 9, (0,))
        self.assert_told(rule, "6 talk 2", 8, (0,))
        self.assert_told(rule, "7 talk 2; 8 talk 9", 10, (0, 1))
        self.assert_told(rule, "8 talk 2", 7, ())
        self.assert_told(rule, "7 talk 2; 9 one 1; 9 talk 2; 11 talk 1; 12 talk 2", 14, (0, 1, 2, 3, 4))
        # Standing may end on a rest day, too, without a day left.
        self.assert_told(rule, "7 talk 2; 9 talk 2; 11 talk 1; 12 talk 1", 14, (0, 1, 2, 3))

    def test_caps(self):
        rule = "term 5 rests 5 6 cap 7\nstill talk 9 any\nanew owe 9 2"
        self.assert_told(rule, "", 4, ())
        # Day 6, the last one by the cap, is a rest day.
        self.assert_told(rule, "4 talk 9", 6, (0,))
        self.assert_told(rule, "4 owe 9; 6 talk 1; 6 talk 2; 7 talk 1", 6, (0, 1, 2))
        self.assert_told("term 5 rests none cap 5\nstill talk 9 any", "4 talk 1; 5 talk 1", 4, (0,))
        self.assert_told("term 5 rests none cap 4\nstill talk 9 any", "3 talk 1; 4 talk 1", 3, (0,))
        self.assert_told("term 5 rests 0 1 2 cap 1\nstill talk 9 1", "0 talk 1; 0 talk 1", 0, (0,))
        self.assert_told("term 1 rests 0 1 2 3 4 5 cap none", "", 6, ())

    def test_names_of_no_kind(self):
        rule = "term 5 rests none cap none\nstill talk 3 1"
        self.assert_told(rule, "0 tal 9; 0 talk 1; 1 owe 1; 3 talk 2", 5, (1,))
        self.assert_told("term 5 rests none cap none", "0 talk 9; 4 owe 1", 4, ())

    def test_standing_to_the_end(self):
        rule = Rule.read("term 3 rests 3 4 cap none\nstill talk 3 1")
        story = Story.read("2 talk 3; 2 talk 3; 5 talk 1")
        pairs = [standing(rule, story, day) for day in range(8)]
        self.assertEqual(pairs, [(3, 0), (2, 0), (1, 0), (1, 2), (1, 1), (1, 0), None, None])
        self.assertIsNone(standing(rule, story, BIG))

    def test_standing_behind_the_cap(self):
        rule = Rule.read("term 9 rests none cap 4\nstill talk 3 1")
        story = Story.read("2 talk 3")
        self.assertEqual([standing(rule, story, day) for day in (0, 2, 3, 4, 9)], [(9, 0), (7, 0), (7, 2), None, None])

    def test_occasions_of_this_day_have_not_happened_yet(self):
        story = Story.read("0 talk 3; 2 owe 1")
        rule = Rule.read("term 2 rests none cap none\nstill talk 2 1\nanew owe 8 1")
        self.assertEqual([standing(rule, story, day) for day in (0, 1, 2, 3)], [(2, 0), (2, 1), (2, 0), (7, 0)])


class Drawn(unittest.TestCase):
    def assert_as_told(self, rule, story):
        seen = (str(rule), str(story))
        last, indexes, pairs = told(rule, story)
        self.assertEqual(lapse(rule, story), last, seen)
        self.assertEqual(counted(rule, story), indexes, seen)
        self.assertIs(type(counted(rule, story)), tuple)
        # Each day up to the last one, and two behind it.
        self.assertEqual([standing(rule, story, day) for day in range(last + 3)], [*pairs, None, None], seen)
        self.assertEqual(lapse(rule, story), last)
        self.assertEqual((str(rule), str(story)), seen)

    def test_small_rules(self):
        draw = random.Random(8)
        for rule in drawn_rules(80, 800):
            for _ in range(6):
                self.assert_as_told(rule, drawn_story(draw, rule))

    def test_greater_rules_and_stories(self):
        draw = random.Random(9)
        for rule in drawn_rules(90, 60, greatest=30, longest=60, times=(1, 3, None)):
            self.assert_as_told(rule, drawn_story(draw, rule, most=40, longest=40))


class Great(unittest.TestCase):
    """Numbers up to 10**18, against sums by hand."""

    def test_length_and_rest_days(self):
        # 10**18 leaves 1 by 7.
        self.assertEqual(BIG % 7, 1)
        self.assertEqual(lapse(Rule(BIG), Story()), BIG - 1)
        self.assertEqual(lapse(Rule(BIG, [0]), Story()), BIG)
        self.assertEqual(lapse(Rule(BIG, [0, 1, 2, 3, 4, 5]), Story()), BIG + 5)
        self.assertEqual(lapse(Rule(BIG, [0], BIG), Story()), BIG - 1)
        self.assertEqual(lapse(Rule(BIG, (), 3), Story()), 2)

    def test_kinds(self):
        rule = Rule(BIG, [0], None, [Still("talk", BIG, 2), Anew("owe", BIG, 1), Lift("plea", BIG, BIG + 5, 2)])
        self.assertEqual(lapse(rule, Story([(0, "talk", BIG)])), 2 * BIG - 1)
        # From day BIG, to which the last day was put off, to 2 * BIG, a working day.
        self.assertEqual(lapse(rule, Story([(BIG, "talk", BIG)])), 2 * BIG)
        self.assertEqual(lapse(rule, Story([(BIG, "talk", BIG), (2 * BIG, "owe", 1)])), 3 * BIG - 1)
        self.assertEqual(lapse(rule, Story([(0, "plea", 1)])), BIG + 4)
        self.assertEqual(lapse(rule, Story([(BIG, "plea", 1), (BIG, "plea", 1), (BIG, "plea", 1)])), 2 * BIG + 4)
        story = Story([(5, "talk", 7), (5, "talk", BIG), (6, "talk", BIG), (BIG + 4, "owe", 1)])
        self.assertEqual(counted(rule, story), (0, 1, 3))
        self.assertEqual(lapse(rule, story), 2 * BIG + 4)
        self.assertEqual(standing(rule, story, 5), (BIG - 5, 0))
        self.assertEqual(standing(rule, story, 6), (BIG - 5, BIG - 1))
        self.assertEqual(standing(rule, story, BIG + 4), (BIG - 5, 1))
        self.assertEqual(standing(rule, story, BIG + 6), (BIG - 1, 0))
        self.assertEqual(standing(rule, story, 2 * BIG + 4), (1, 0))
        self.assertIsNone(standing(rule, story, 2 * BIG + 5))

    def test_forty_occasions(self):
        rule = Rule(5, (), None, [Still("talk", BIG)])
        story = Story([(4 + at * BIG, "talk", BIG) for at in range(40)])
        self.assertEqual(lapse(rule, story), 4 + 40 * BIG)
        self.assertEqual(counted(rule, story), tuple(range(40)))
        self.assertEqual(standing(rule, story, 4 + 39 * BIG), (1, 0))
        self.assertEqual(standing(rule, story, 5 + 39 * BIG), (1, BIG - 1))
        self.assertEqual(lapse(rule, Story([(4 + BIG, "talk", BIG)] * 40)), 4)
        self.assertEqual(lapse(Rule(5, (), BIG, rule.kinds), story), BIG - 1)
        self.assertEqual(counted(Rule(5, (), BIG, rule.kinds), story), (0,))
