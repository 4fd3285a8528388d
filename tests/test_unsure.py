"""Points [16] and [17]: unsure days."""

import itertools
import random
import unittest

from tests.any_values import BAD_NAMES, any_values, but, is_count, is_listing, is_name, is_number, nested
from tests.by_days import drawn_rule, lapse_of
from termstill.errors import InvalidUnsure
from termstill.kinds import Still
from termstill.rules import Rule
from termstill.stories import Story
from termstill.unsure import Unsure, deciding, fillings, lapses, settling, surely

BIG = 10**18
RULE = Rule.read("term 10 rests 5 6 cap none\nstill talk 3 1\nanew owe 5 1\nlift plea 2 4 1")
GOOD = (3, 5, "talk", 2)


def filled(unsure, choice):
    """The filling for a choice: what begins on each day, in the order in which it is told."""
    occasions = []
    for day in sorted(set(choice)):
        occasions += [(day, *told[2:]) for told, some in zip(unsure.occasions, choice) if some == day]
    return tuple(occasions)


def choices(unsure):
    return list(itertools.product(*[range(first, last + 1) for first, last, _, _ in unsure.occasions]))


def drawn_unsure(draw, rule, most_choices=200, most=5):
    """Unsure occasions around the lapse of the rule, many of them on a few days, of kinds and of no kind."""
    around = lapse_of(rule, Story())
    rows, many = [], 1
    for _ in range(draw.randint(0, most)):
        wide = draw.randint(1, min(draw.choice([1, 2, 4, 12]), most_choices // many))
        first = max(0, draw.choice([0, around, around, around - wide, around + draw.randint(-4, 4)]))
        many *= wide
        rows.append((first, first + wide - 1, draw.choice([*rule.names, *rule.names, "zz"]), draw.randint(1, 5)))
    return Unsure(rows)


class Making(unittest.TestCase):
    """Point [16]."""

    def assert_invalid(self, value, at):
        with self.assertRaises(InvalidUnsure) as caught:
            Unsure(value)
        self.assertIs(type(caught.exception), InvalidUnsure)
        self.assertEqual(caught.exception.at, at)

    def test_lists_and_tuples(self):
        rows = [GOOD, (0, 0, "a", 1), GOOD, (BIG, BIG + 3, "zz", BIG)]
        for occasions in (rows, tuple(rows)):
            self.assertEqual(Unsure(occasions).occasions, tuple(rows))
            self.assertIs(type(Unsure(occasions).occasions), tuple)
        self.assertEqual(Unsure(occasions=rows).occasions, tuple(rows))
        for empty in ([], ()):
            self.assertEqual(Unsure(empty).occasions, ())
        with self.assertRaises(TypeError):
            Unsure()

    def test_a_list_that_is_changed_later(self):
        rows = [GOOD]
        unsure = Unsure(rows)
        rows.append((1, 1, "a", 1))
        rows[0] = None
        self.assertEqual(unsure.occasions, (GOOD,))
        self.assertEqual([str(story) for story in fillings(unsure)], ["3 talk 2", "4 talk 2", "5 talk 2"])

    def test_no_sequences(self):
        for value in but(is_listing):
            self.assert_invalid(value, 0)

    def test_any_values_in_a_row(self):
        wrong = [value for value in any_values() if value != (0, 1, "talk", 1)]
        for value in wrong + [list(GOOD), GOOD[:3], (*GOOD, 1), (GOOD,), [GOOD], nested(GOOD, 7)]:
            for rows in ([value], (value, GOOD), [value, value], [value, None]):
                self.assert_invalid(rows, 0)
            self.assert_invalid([GOOD, GOOD, value, GOOD, value], 2)

    def test_any_values_at_each_place(self):
        for at, wanted in enumerate((is_number, is_number, is_name, is_count)):
            for value in any_values():
                row = (*GOOD[:at], value, *GOOD[at + 1 :])
                if wanted(value) and row[0] <= row[1]:
                    self.assertEqual(Unsure([GOOD, row]).occasions, (GOOD, row))
                else:
                    self.assert_invalid([GOOD, row], 1)
                    self.assert_invalid((row, GOOD), 0)

    def test_wrong_things(self):
        for bad in (
            (5, 3, "talk", 2), (1, 0, "talk", 2), (-1, 3, "talk", 2), (-2, -1, "talk", 2), (3, 5, "talk", 0),
            (3, 5, "talk", -1), (True, 5, "talk", 1), (0, True, "talk", 1), (0, 1, "talk", True), (False, 0, "talk", 1),
            (None, 5, "talk", 1), (3, None, "talk", 1), (3, 5, "talk", None), (3, 5, "talk"), (3, "talk", 2), (),
            ("3", 5, "talk", 2), [3, 5, "talk", 2], (3, 5, ("talk",), 2), ((3, 5), "talk", 2),
        ):
            self.assert_invalid([bad], 0)
            self.assert_invalid([GOOD, GOOD, bad, None], 2)
        for name in BAD_NAMES:
            self.assert_invalid([GOOD, (3, 5, name, 2)], 1)


class Fillings(unittest.TestCase):
    def assert_fillings(self, unsure):
        told = fillings(unsure)
        self.assertIs(type(told), tuple)
        self.assertTrue(all(type(story) is Story for story in told))
        expected = sorted({filled(unsure, choice) for choice in choices(unsure)})
        self.assertEqual([story.occasions for story in told], expected)

    def test_the_empty_story_alone(self):
        (story,) = fillings(Unsure([]))
        self.assertEqual(story, Story())
        self.assertEqual(fillings(unsure=Unsure(())), (Story(),))

    def test_by_hand(self):
        unsure = Unsure([(2, 3, "b", 1), (1, 2, "a", 7), (2, 2, "a", 1)])
        self.assertEqual([str(story) for story in fillings(unsure)], [
            "1 a 7; 2 a 1; 3 b 1", "1 a 7; 2 b 1; 2 a 1", "2 a 7; 2 a 1; 3 b 1", "2 b 1; 2 a 7; 2 a 1",
        ])

    def test_ascending_by_the_numbers_not_by_the_texts(self):
        unsure = Unsure([(8, 11, "a", 1)])
        self.assertEqual([str(story) for story in fillings(unsure)], ["8 a 1", "9 a 1", "10 a 1", "11 a 1"])
        unsure = Unsure([(5, 5, "a", 10), (5, 6, "a", 9)])
        self.assertEqual([str(story) for story in fillings(unsure)], ["5 a 10; 5 a 9", "5 a 10; 6 a 9"])

    def test_equal_fillings_of_unlike_choices_once(self):
        unsure = Unsure([(1, 3, "a", 1), (1, 3, "a", 1)])
        self.assertEqual([str(story) for story in fillings(unsure)], [
            "1 a 1; 1 a 1", "1 a 1; 2 a 1", "1 a 1; 3 a 1", "2 a 1; 2 a 1", "2 a 1; 3 a 1", "3 a 1; 3 a 1",
        ])
        # Of unlike length they are told apart.
        self.assertEqual(len(fillings(Unsure([(1, 3, "a", 1), (1, 3, "a", 2)]))), 9)

    def test_drawn(self):
        draw = random.Random(160)
        for _ in range(300):
            self.assert_fillings(drawn_unsure(draw, drawn_rule(draw), draw.choice([8, 40, 200])))

    def test_the_same_name_on_the_same_days(self):
        draw = random.Random(161)
        for _ in range(100):
            rows = [(first, first + draw.randint(0, 2), "a", draw.randint(1, 2))
                    for first in [draw.randint(0, 2) for _ in range(draw.randint(1, 4))]]
            self.assert_fillings(Unsure(rows))

    def test_days_of_the_greatest_size(self):
        unsure = Unsure([(BIG - 49, BIG, "talk", BIG), (BIG - 3, BIG, "owe", 1)])
        self.assert_fillings(unsure)
        self.assertEqual(len(fillings(unsure)), 200)
        self.assertEqual(fillings(unsure)[-1].occasions, ((BIG, "talk", BIG), (BIG, "owe", 1)))


class Sure(unittest.TestCase):
    """Point [17]."""

    def assert_sure(self, rule, unsure):
        text = f"{rule}\n{unsure.occasions}"
        ends = {choice: lapse_of(rule, Story(filled(unsure, choice))) for choice in choices(unsure)}
        days = sorted(set(ends.values()))
        self.assertEqual(lapses(rule, unsure), tuple(days), text)
        for day in sorted({0, *[day + more for day in days for more in (-1, 0, 1) if day + more >= 0]}):
            lives = {last >= day for last in ends.values()}
            self.assertIs(surely(rule, unsure, day), lives.pop() if len(lives) == 1 else None, text)
        decides = []
        for at in range(len(unsure.occasions)):
            alone = {}
            for choice, last in ends.items():
                alone.setdefault((choice[:at], choice[at + 1 :]), set()).add(last)
            if max(len(some) for some in alone.values()) > 1:
                decides.append(at)
        self.assertEqual(deciding(rule, unsure), tuple(decides), text)
        for at, (first, last, _, _) in enumerate(unsure.occasions):
            # Each day that can be sure is enough up to the least lapse that it leaves.
            least = {day: min(ends[choice] for choice in ends if choice[at] == day) for day in range(first, last + 1)}
            for day in {max(some + more, 0) for some in least.values() for more in (-1, 0, 1)} | {0}:
                expected = tuple(sure for sure in range(first, last + 1) if least[sure] >= day)
                self.assertEqual(settling(rule, unsure, at, day), expected, text)
        return days, decides

    def test_parameter_names(self):
        unsure = Unsure(occasions=[(7, 10, "talk", 3), (12, 15, "owe", 1)])
        self.assertEqual(lapses(unsure=unsure, rule=RULE), (9, 14, 16, 17, 18))
        self.assertIs(surely(day=9, unsure=unsure, rule=RULE), True)
        self.assertEqual(deciding(unsure=unsure, rule=RULE), (0, 1))
        self.assertEqual(settling(day=9, at=1, unsure=unsure, rule=RULE), (12, 13, 14, 15))

    def test_the_example_by_hand(self):
        unsure = Unsure([(7, 10, "talk", 3), (12, 15, "owe", 1)])
        self.assert_sure(RULE, unsure)
        self.assertEqual([surely(RULE, unsure, day) for day in (0, 9, 10, 14, 18, 19, BIG)],
                         [True, True, None, None, None, False, False])
        # Talks on day 10 are too late; only sure of an earlier day, the claim lives on day 14.
        self.assertEqual(settling(RULE, unsure, 0, 14), (7, 8, 9))
        self.assertEqual(settling(RULE, unsure, 0, 9), (7, 8, 9, 10))
        self.assertEqual(settling(RULE, unsure, 0, 15), ())
        self.assertEqual(settling(RULE, unsure, 1, 14), ())

    def test_without_unsure_occasions(self):
        unsure = Unsure([])
        self.assertEqual(lapses(RULE, unsure), (9,))
        self.assertEqual([surely(RULE, unsure, day) for day in (8, 9, 10)], [True, True, False])
        self.assertEqual(deciding(RULE, unsure), ())

    def test_occasions_of_one_day_alone(self):
        unsure = Unsure([(9, 9, "talk", 3), (14, 14, "owe", 1), (3, 3, "zz", 1)])
        self.assertEqual(self.assert_sure(RULE, unsure), ([18], []))
        self.assertEqual(settling(RULE, unsure, 1, 18), (14,))
        self.assertEqual(settling(RULE, unsure, 1, 19), ())

    def test_names_of_no_kind(self):
        unsure = Unsure([(0, 19, "zz", 1), (9, 10, "talk", 3)])
        self.assertEqual(self.assert_sure(RULE, unsure), ([9, 14], [1]))
        self.assertEqual(settling(RULE, unsure, 0, 9), tuple(range(20)))
        self.assertEqual(settling(RULE, unsure, 0, 10), ())

    def test_the_order_on_one_day_is_that_of_the_occasions(self):
        rule = Rule.read("term 5 rests none cap none\nlift plea 2 9 1\nanew owe 6 1")
        plea, owe = (4, 4, "plea", 1), (4, 4, "owe", 1)
        self.assertEqual(lapses(rule, Unsure([plea, owe])), (9,))
        self.assertEqual(lapses(rule, Unsure([owe, plea])), (11,))

    def test_whose_day_decides_alone(self):
        # One of both talks is enough, each helps on day 2 alone: only both together make a difference.
        rule = Rule(3, (), None, [Still("talk", 2, 1)])
        self.assertEqual(self.assert_sure(rule, Unsure([(2, 3, "talk", 2)])), ([2, 4], [0]))
        self.assertEqual(self.assert_sure(rule, Unsure([(2, 3, "talk", 2), (2, 2, "talk", 2)])), ([4], []))
        self.assertEqual(self.assert_sure(rule, Unsure([(2, 3, "talk", 2), (2, 3, "talk", 2)])), ([2, 4], [0, 1]))
        self.assertEqual(self.assert_sure(rule, Unsure([(0, 2, "talk", 2), (3, 9, "talk", 2)])), ([4], []))

    def test_drawn(self):
        draw = random.Random(170)
        sizes = {}
        for _ in range(400):
            rule = drawn_rule(draw, longest=6)
            days, decides = self.assert_sure(rule, drawn_unsure(draw, rule, draw.choice([4, 20, 60])))
            sizes[min(len(days), 3), len(decides)] = True
        self.assertGreater(len(sizes), 6)

    def test_drawn_many_choices(self):
        draw = random.Random(171)
        for _ in range(25):
            rule = drawn_rule(draw, longest=6)
            self.assert_sure(rule, drawn_unsure(draw, rule))

    def test_nothing_changes(self):
        draw = random.Random(172)
        for _ in range(30):
            rule = drawn_rule(draw)
            unsure = drawn_unsure(draw, rule, 20)
            ahead = (str(rule), unsure.occasions)
            calls = [lambda: lapses(rule, unsure), lambda: surely(rule, unsure, 4), lambda: deciding(rule, unsure),
                     lambda: [story.occasions for story in fillings(unsure)],
                     lambda: [settling(rule, unsure, at, 5) for at in range(len(unsure.occasions))]]
            first = [call() for call in calls]
            self.assertEqual([call() for call in calls[::-1]], first[::-1])
            self.assertEqual((str(rule), unsure.occasions), ahead)


class Great(unittest.TestCase):
    """At the limits of point [3]."""

    def test_two_hundred_choices_of_great_days(self):
        rule = Rule(BIG, (), None, [Still("talk", BIG, 3), Still("rest", 1, 3)])
        unsure = Unsure([(BIG - 100, BIG + 99, "talk", BIG)])
        self.assertEqual(lapses(rule, unsure), (BIG - 1, 2 * BIG - 1))
        self.assertEqual([surely(rule, unsure, day) for day in (BIG - 1, BIG, 2 * BIG - 1, 2 * BIG)],
                         [True, None, None, False])
        self.assertEqual(deciding(rule, unsure), (0,))
        self.assertEqual(settling(rule, unsure, 0, 2 * BIG - 1), tuple(range(BIG - 100, BIG)))
        self.assertEqual(len(settling(rule, unsure, 0, BIG - 1)), 200)

    def test_two_hundred_choices_of_five_occasions(self):
        rule = Rule(BIG, (), None, [Still("talk", BIG, 3), Still("rest", 1, 3)])
        unsure = Unsure([
            (BIG - 1, BIG + 3, "talk", 2), (BIG - 1, BIG, "rest", 9), (BIG - 3, BIG - 2, "zz", 1),
            (BIG - 1, BIG, "rest", 1), (0, 4, "rest", 1),
        ])
        self.assertEqual(len(choices(unsure)), 200)
        # The early rest is sure. The others let the term stand on the days on which they last, together or not; talks
        # on day BIG + 3 are always too late.
        self.assertEqual(lapses(rule, unsure), (BIG + 1, BIG + 2, BIG + 3, BIG + 4))
        self.assertEqual(deciding(rule, unsure), (0, 1, 3))
        self.assertEqual(settling(rule, unsure, 0, BIG + 2), (BIG - 1, BIG, BIG + 1))
        self.assertEqual(settling(rule, unsure, 0, BIG + 3), (BIG + 1,))
        self.assertEqual([surely(rule, unsure, day) for day in (BIG + 1, BIG + 2, BIG + 5)], [True, None, False])

    def test_all_is_as_in_the_first_weeks(self):
        draw = random.Random(173)
        more = BIG - 100 - (BIG - 100) % 7
        for _ in range(60):
            near = drawn_rule(draw)
            few = drawn_unsure(draw, near)
            far = Rule(near.length + more, near.rests, near.cap and near.cap + more, near.kinds)
            many = Unsure([(first + more, last + more, *told) for first, last, *told in few.occasions])
            self.assertEqual(lapses(far, many), tuple(day + more for day in lapses(near, few)))
            self.assertEqual(deciding(far, many), deciding(near, few))
            day = draw.choice(lapses(near, few))
            self.assertIs(surely(far, many, day + more), surely(near, few, day))
            for at in range(len(few.occasions)):
                expected = tuple(sure + more for sure in settling(near, few, at, day))
                self.assertEqual(settling(far, many, at, day + more), expected)
