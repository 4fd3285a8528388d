"""Points [10] and [11]: orders in which occasions happen."""

import itertools
import random
import unittest

from tests.any_values import but
from tests.by_days import drawn_rule, full_days, lapse_of, ordered
from termstill.errors import NoKind
from termstill.kinds import Anew, Lift, Still
from termstill.lapses import counted
from termstill.orders import greatest_order, in_order, least_order, told_story
from termstill.rules import Rule
from termstill.stories import Story

BIG = 10**18
RULE = Rule.read("term 10 rests 5 6 cap none\nstill talk 3 1\nanew owe 5 1\nlift plea 2 4 1")
CALLS = (told_story, in_order, greatest_order, least_order)


def drawn_names(draw, rule, most):
    pool = [kind.name for kind in rule.kinds for _ in range(kind.times or 4)]
    draw.shuffle(pool)
    return pool[: draw.randint(0, most)]


class Calling(unittest.TestCase):
    def test_parameter_names(self):
        self.assertEqual(str(told_story(names=["talk"], rule=RULE)), "9 talk 3")
        self.assertEqual(in_order(names=["talk"], rule=RULE), 14)
        self.assertEqual(greatest_order(names=["talk"], rule=RULE), ("talk",))
        self.assertEqual(least_order(names=["talk"], rule=RULE), ("talk",))

    def test_no_names(self):
        for names in ([], ()):
            self.assertEqual(told_story(RULE, names).occasions, ())
            self.assertEqual(in_order(RULE, names), 9)
            self.assertEqual(greatest_order(RULE, names), ())
            self.assertEqual(least_order(RULE, names), ())
        self.assertEqual(in_order(Rule(9, (), 4), []), 3)


class ByHand(unittest.TestCase):
    def assert_order(self, rule, names, text, last):
        rule = Rule.read(rule)
        self.assertEqual(str(told_story(rule, names)), text)
        self.assertEqual(in_order(rule, names), last)

    def test_occasions_that_move_nothing(self):
        rule = "term 3 rests 3 4 cap none\nanew one 1 any\nlift top 5 1 any\nstill talk 2 any\nanew owe 2 any"
        self.assert_order(rule, ["one", "top", "one", "owe"], "2 one 1; 2 top 1; 2 one 1; 2 owe 1", 5)
        # Behind a last day that was put off, the first one moves no day, but it leaves one.
        self.assert_order(rule, ["owe", "one", "talk"], "2 owe 1; 5 one 1; 5 talk 2", 7)
        self.assert_order(rule, ["owe", "talk", "talk"], "2 owe 1; 5 talk 2; 7 talk 2", 9)

    def test_lifts_behind_a_day_that_was_put_off(self):
        rule = "term 3 rests 3 4 cap none\nanew owe 2 1\nlift plea 1 2 any\nlift more 3 3 1"
        self.assert_order(rule, ["owe", "plea", "plea"], "2 owe 1; 5 plea 1; 5 plea 1", 6)
        self.assert_order(rule, ["owe", "more"], "2 owe 1; 5 more 1", 7)

    def test_caps(self):
        rule = "term 3 rests 4 cap 5\nstill talk 2 any\nanew owe 9 1\nanew one 1 1"
        # Day 4, the last one by the cap, is a rest day: all others happen on it.
        self.assert_order(rule, ["talk", "talk", "owe", "one"], "2 talk 2; 4 talk 2; 4 owe 1; 4 one 1", 4)
        self.assert_order(rule, ["owe", "talk"], "2 owe 1; 4 talk 2", 4)
        self.assert_order("term 9 rests none cap 2\nstill talk 2 any", ["talk", "talk"], "1 talk 2; 1 talk 2", 1)

    def test_great_numbers(self):
        kinds = [Still("talk", BIG, 3), Anew("owe", BIG, 3), Lift("plea", BIG, BIG, 1)]
        rule = Rule(BIG, [0], None, kinds)
        names = ["talk", "owe", "plea", "talk"]
        # BIG leaves 1 by 7, so that each multiple up to five of it is a working day.
        self.assertEqual(
            str(told_story(rule, names)),
            f"{BIG} talk {BIG}; {2 * BIG} owe 1; {3 * BIG - 1} plea 1; {4 * BIG - 2} talk {BIG}",
        )
        self.assertEqual(in_order(rule, names), 5 * BIG - 2)
        self.assertEqual(in_order(Rule(BIG, [0], BIG, kinds), names), BIG - 1)
        six = ["plea", "talk", "owe", "talk", "owe", "owe"]
        every = [in_order(rule, order) for order in itertools.permutations(six)]
        self.assertEqual(in_order(rule, greatest_order(rule, six)), max(every))
        self.assertEqual(in_order(rule, least_order(rule, six)), min(every))


class Drawn(unittest.TestCase):
    def assert_orders(self, rule, names):
        seen = (str(rule), names)
        given = list(names)
        lapses = {}
        for order in set(itertools.permutations(names)):
            story = ordered(rule, order)
            lapses[order] = lapse_of(rule, story)
            self.assertEqual(told_story(rule, order), story, seen)
            self.assertEqual(in_order(rule, list(order)), lapses[order], seen)
            self.assertEqual(counted(rule, story), tuple(range(len(names))), seen)
        for call, wanted in ((greatest_order, max), (least_order, min)):
            order = call(rule, names)
            self.assertIs(type(order), tuple)
            self.assertEqual(sorted(order), sorted(names), seen)
            self.assertEqual(lapses[order], wanted(lapses.values()), seen)
            self.assertEqual(call(rule, tuple(names)), order)
        self.assertEqual(names, given)

    def test_all_orders(self):
        draw = random.Random(10)
        for _ in range(400):
            rule = drawn_rule(draw)
            self.assert_orders(rule, drawn_names(draw, rule, 4))

    def test_all_orders_of_six_names(self):
        draw = random.Random(11)
        for _ in range(40):
            rule = drawn_rule(draw, greatest=9, times=(2, 3, None))
            self.assert_orders(rule, drawn_names(draw, rule, 6))

    def test_no_occasion_is_worth_more_on_an_earlier_day(self):
        draw = random.Random(12)
        for _ in range(150):
            rule = drawn_rule(draw, most_kinds=2)
            names = drawn_names(draw, rule, 3)
            greatest = in_order(rule, greatest_order(rule, names))
            days = range(greatest + 1)
            for order in set(itertools.permutations(names)):
                for begins in draw.sample(list(itertools.combinations_with_replacement(days, len(names))), 1):
                    story = Story([(day, name, full_days(rule.kind(name))) for day, name in zip(begins, order)])
                    self.assertLessEqual(lapse_of(rule, story), greatest)


class Wrong(unittest.TestCase):
    def assert_none(self, rule, names, wanted):
        for call in CALLS:
            for given in (list(names), tuple(names)):
                with self.assertRaises(NoKind) as caught:
                    call(rule, given)
                self.assertIs(caught.exception.name, wanted)
                self.assertEqual(len(given), len(names))

    def test_any_value(self):
        for value in but(lambda value: isinstance(value, str) and value in RULE.names) + ["Talk", "owe ", "kind"]:
            self.assert_none(RULE, [value], value)
            self.assert_none(RULE, ["talk", value, "owe", "talk", None], value)
            self.assert_none(RULE, [value, value, "x"], value)

    def test_more_often_than_it_counts(self):
        rule = Rule(5, (), None, [Still("a", 2, 1), Anew("b", 2, 2), Lift("c", 2, 3)])
        for names, at in [
            (["a", "a"], 1), (["a", "c", "a", "x"], 2), (["b", "b", "b"], 2), (["c"] * 6 + ["b", "b", "a", "b"], 9),
            (["b", "a", "b", "a", "b"], 3), (["a", "x", "a"], 1), (["a", "a", "x"], 1),
        ]:
            self.assert_none(rule, names, names[at])
        for names in (["a", "b", "b"], ["c"] * 6, ["b", "c", "a", "b"]):
            for call in CALLS:
                call(rule, names)

    def test_the_first_one_is_told(self):
        first, second = [1], ["talk"]
        self.assert_none(RULE, ["owe", first, second], first)
        self.assert_none(RULE, ["owe", "plea", "owe", second], "owe")
        self.assert_none(Rule(3), ["talk"], "talk")

    def test_a_string_is_no_sequence(self):
        rule = Rule(5, (), None, [Still("a", 2), Anew("b", 2)])
        for call in CALLS:
            with self.assertRaises(NoKind) as caught:
                call(rule, "ab")
            self.assertEqual(caught.exception.name, "ab")
