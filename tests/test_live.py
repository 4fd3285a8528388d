"""Point [18]: live claims."""

import random
import unittest

from tests.any_values import BAD_NAMES, any_values, but, is_count, is_listing, is_name
from tests.by_days import Claim, drawn_rule
from termstill.errors import Refused, TermError
from termstill.kinds import Still
from termstill.lapses import lapse
from termstill.live import Live
from termstill.rules import Rule
from termstill.stories import Story

BIG = 10**18
RULE = Rule.read("term 10 rests 5 6 cap none\nstill talk 3 1\nanew owe 5 1\nlift plea 2 4 1")


class Told:
    """A live claim that is done plainly: all that was told is done again from day 0 on, day by day."""

    def __init__(self, rule):
        self.rule = rule
        self.deeds = []
        self.replay()

    def replay(self):
        self.claim = Claim(self.rule)
        self.occasions = []
        for deed in self.deeds:
            self.results = [self.step(*part) for part in deed]

    def step(self, what, *told):
        if what == "wait":
            for _ in range(told[0]):
                if not self.claim.lapsed:
                    self.claim.finish_day()
            return not self.claim.lapsed
        self.occasions.append((self.claim.day, *told))
        return self.claim.begin(*told)

    def do(self, deed):
        """The results of the parts of a deed; those of another length go on to the day of each occasion."""
        self.deeds.append(deed)
        self.replay()
        return self.results if deed else []

    def refused(self, occasions):
        """The index of the first occasion that is refused, or None."""
        claim, day = self.claim.twin(), self.day()
        for at, (begins, *_) in enumerate(occasions):
            if begins < day or claim.lapsed:
                return at
            day = begins
            while claim.day < day and not claim.lapsed:
                claim.finish_day()
            if claim.lapsed:
                return at
            claim.begin(*occasions[at][1:])
        return None

    def day(self):
        return self.claim.day + self.claim.lapsed

    def seen(self):
        claim = self.claim
        story = Story(self.occasions)
        return (str(self.rule), self.day(), str(story), claim.last(), not claim.lapsed, len(self.deeds))


def seen(live):
    return (str(live.rule), live.day, str(live.story), live.last, live.alive, len(live))


def drawn_occasions(draw, told, most=4):
    """Occasions from today on, some of them too early or too late."""
    names = [*told.rule.names, *told.rule.names, "zz"]
    days = sorted(max(0, told.day() + draw.choice([-1, 0, 0, 0, 1, 1, 2, 4])) for _ in range(draw.randint(0, most)))
    if draw.random() < 0.2:
        draw.shuffle(days)
    return [(day, draw.choice(names), draw.randint(1, 4)) for day in days]


class LiveCase(unittest.TestCase):
    def assert_refused(self, call, at):
        with self.assertRaises(Refused) as caught:
            call()
        self.assertIs(type(caught.exception), Refused)
        self.assertEqual(caught.exception.at, at)
        self.assertIs(type(caught.exception.at), type(at))

    def assert_kept(self, live, call, at):
        """The call is refused and changes nothing, neither now nor in what can be taken back."""
        ahead, history = seen(live), self.history(live)
        self.assert_refused(call, at)
        self.assertEqual((seen(live), self.history(live)), (ahead, history))

    def history(self, live):
        """All that is seen while everything is taken back."""

        def taken_back(inner):
            found = []
            while inner.undo():
                found.append(seen(inner))
            return found

        return live.within(taken_back)


class Calling(LiveCase):
    def test_parameter_names(self):
        live = Live(rule=RULE)
        self.assertIs(live.begin(days=3, name="talk"), True)
        self.assertIs(live.wait(many=2), True)
        self.assertEqual(live.several(occasions=[(3, "owe", 1)]), (True,))
        self.assertEqual(live.within(work=len), 3)
        self.assertEqual(str(live.story), "0 talk 3; 3 owe 1")

    def test_days_and_many_left_out(self):
        live = Live(RULE)
        self.assertIs(live.wait(), True)
        self.assertIs(live.begin("talk"), True)
        self.assertEqual((live.day, str(live.story), live.last), (1, "1 talk 1", 10))

    def test_at_first(self):
        live = Live(RULE)
        self.assertIs(live.rule, RULE)
        self.assertEqual((live.day, live.story, live.last, live.alive, len(live)), (0, Story(), 9, True, 0))
        self.assertIs(type(live.story), Story)
        self.assertIs(type(live.alive), bool)
        self.assertIs(live.undo(), False)

    def test_parts_can_only_be_read(self):
        live = Live(RULE)
        for name in ("rule", "day", "story", "last", "alive"):
            with self.assertRaises(AttributeError):
                setattr(live, name, None)
        self.assertEqual(seen(live), seen(Live(RULE)))

    def test_it_is_neither_iterated_nor_compared(self):
        live = Live(RULE)
        live.begin("talk")
        for call in (iter, list, lambda value: [*value], lambda value: value[0], lambda value: "talk" in value):
            with self.assertRaises(TypeError):
                call(live)
        self.assertTrue(live == live)


class ByHand(LiveCase):
    def test_the_overview(self):
        live = Live(RULE)
        self.assertIs(live.wait(9), True)
        self.assertIs(live.begin("talk", 3), True)
        self.assertEqual((live.day, live.last), (9, 14))
        self.assertIs(live.wait(5), True)
        self.assertIs(live.begin("owe"), True)
        self.assertIs(live.begin("talk", 3), False)
        self.assertIs(live.begin("zz", BIG), False)
        self.assertEqual((live.day, live.last, live.alive), (14, 18, True))
        self.assertEqual(str(live.story), f"9 talk 3; 14 owe 1; 14 talk 3; 14 zz {BIG}")
        self.assertEqual(lapse(RULE, live.story), 18)
        self.assertIs(live.wait(4), True)
        self.assertEqual((live.day, live.alive), (18, True))
        self.assertIs(live.wait(), False)
        self.assertEqual((live.day, live.last, live.alive, len(live)), (19, 18, False, 8))

    def test_one_that_changes_nothing_counts(self):
        live = Live(RULE)
        self.assertEqual([live.begin("owe"), live.begin("owe")], [True, False])
        self.assertEqual(live.last, 9)

    def test_behind_the_lapse(self):
        live = Live(RULE)
        for many in (10, 1, 5, BIG):
            self.assertIs(live.wait(many), False)
            self.assertEqual((live.day, live.last, live.alive), (10, 9, False))
        self.assertEqual(len(live), 4)
        self.assert_kept(live, lambda: live.begin("talk"), 10)
        self.assert_kept(live, lambda: live.several([(10, "talk", 1)]), 0)
        self.assertEqual(live.several([]), ())
        self.assertEqual((live.day, len(live)), (10, 5))
        for many in (4, 3, 2, 1):
            self.assertIs(live.undo(), True)
            self.assertEqual((live.day, live.alive, len(live)), (10, False, many))
        self.assertIs(live.undo(), True)
        self.assertEqual((live.day, live.alive, len(live)), (0, True, 0))
        self.assertIs(live.undo(), False)

    def test_lapsing_by_the_cap(self):
        live = Live(Rule(9, (), 3, [Still("talk", 3)]))
        self.assertEqual(live.last, 2)
        self.assertIs(live.wait(2), True)
        self.assertIs(live.begin("talk", 3), True)
        self.assertEqual((live.last, live.alive), (2, True))
        self.assertIs(live.wait(), False)
        self.assertEqual((live.day, live.last), (3, 2))

    def test_putting_off_by_rest_days(self):
        live = Live(Rule(6, [5, 6]))
        self.assertEqual(live.last, 7)
        self.assertEqual([live.wait() for _ in range(8)], [True] * 7 + [False])
        self.assertEqual(live.day, 8)

    def test_two_live_claims_of_one_rule(self):
        one, two = Live(RULE), Live(RULE)
        one.begin("talk", 3)
        one.wait(4)
        self.assertEqual(seen(two), seen(Live(RULE)))
        self.assertIs(two.begin("talk", 3), True)
        self.assertIs(one.begin("talk", 3), False)

    def test_standing(self):
        live = Live(RULE)
        live.wait(9)
        self.assertEqual(live.standing(), (1, 0))
        live.begin("talk", 3)
        self.assertEqual(live.standing(), (1, 3))
        live.wait(2)
        self.assertEqual(live.standing(), (1, 1))
        live.wait(2)
        self.assertEqual(live.standing(), (0, 0))


class Refusals(LiveCase):
    def test_any_values_for_name_and_days(self):
        for value in any_values():
            live = Live(RULE)
            live.wait(4)
            if not is_name(value):
                self.assert_kept(live, lambda: live.begin(value), 4)
            if is_count(value):
                self.assertIs(live.begin("talk", value), True)
            else:
                self.assert_kept(live, lambda: live.begin("talk", value), 4)
                self.assert_kept(live, lambda: live.begin(value, value), 4)

    def test_names_that_are_none(self):
        live = Live(RULE)
        for name in BAD_NAMES:
            self.assert_kept(live, lambda: live.begin(name), 0)
            self.assert_kept(live, lambda: live.begin(name, 0), 0)
        for days in (0, -1, True, False, None, "1", [1], (1,)):
            self.assert_kept(live, lambda: live.begin("talk", days), 0)
        self.assertEqual(len(live), 0)

    def test_behind_the_lapse_all_are_refused(self):
        live = Live(RULE)
        live.wait(11)
        for value in any_values():
            self.assert_kept(live, lambda: live.begin(value), 10)
            self.assert_kept(live, lambda: live.begin("talk", value), 10)

    def test_it_is_refused_as_a_term_error(self):
        with self.assertRaises(TermError):
            Live(RULE).begin("")


class Several(LiveCase):
    def test_by_hand(self):
        live = Live(RULE)
        rows = [(3, "talk", 2), (4, "talk", 9), (9, "plea", 1), (14, "owe", 1)]
        self.assertEqual(live.several(rows), (True, False, True, True))
        rows.append(None)
        self.assertEqual((live.day, live.last, str(live.story), len(live)), (14, 18, str(Story(rows[:4])), 1))
        self.assertIs(live.undo(), True)
        self.assertEqual(seen(live), seen(Live(RULE)))
        self.assertEqual(live.several(tuple(rows[:2])), (True, False))
        # On from here, on the same day and on a later one.
        self.assertEqual(live.several([(4, "zz", 1)]), (False,))
        self.assertEqual(live.several([(9, "plea", 1), (9, "owe", 1)]), (True, True))
        self.assertEqual(len(live), 3)

    def test_no_occasions(self):
        live = Live(RULE)
        for many, empty in enumerate(([], ()), 1):
            self.assertEqual(live.several(empty), ())
            self.assertIs(type(live.several([])), tuple)
            self.assertEqual(seen(live)[:-1], seen(Live(RULE))[:-1])
            self.assertEqual(len(live), 2 * many)
        for many in (3, 2, 1, 0):
            self.assertIs(live.undo(), True)
            self.assertEqual(len(live), many)
        self.assertIs(live.undo(), False)

    def test_no_sequences(self):
        for waited in (0, 4, 30):
            live = Live(RULE)
            live.wait(waited + 1)
            for value in but(is_listing):
                self.assert_kept(live, lambda: live.several(value), 0)

    def test_things_that_are_no_occasions(self):
        live = Live(RULE)
        live.wait(3)
        good = (5, "talk", 2)
        wrong = [value for value in any_values() if value != (0, "talk", 1)]
        wrong += [list(good), good[:2], (*good, 1), (-1, "a", 1), (5, "any", 1), (5, "a", 0), (True, "a", 1)]
        for value in wrong:
            self.assert_kept(live, lambda: live.several([value]), 0)
            self.assert_kept(live, lambda: live.several((good, good, value, good, value)), 2)
            self.assert_kept(live, lambda: live.several([good, value, (0, "a", 1)]), 1)

    def test_occasions_that_begin_too_early(self):
        live = Live(RULE)
        live.wait(3)
        self.assert_kept(live, lambda: live.several([(2, "talk", 1)]), 0)
        self.assert_kept(live, lambda: live.several([(3, "talk", 1), (2, "owe", 1)]), 1)
        self.assert_kept(live, lambda: live.several([(5, "talk", 1), (5, "owe", 1), (4, "owe", 1)]), 2)
        self.assertEqual(live.several([(3, "talk", 1), (3, "owe", 1), (5, "zz", 1)]), (True, True, False))

    def test_occasions_behind_the_lapse(self):
        live = Live(RULE)
        self.assert_kept(live, lambda: live.several([(10, "talk", 1)]), 0)
        self.assert_kept(live, lambda: live.several([(9, "zz", 1), (BIG, "talk", 1)]), 1)
        # Those ahead of it let the claim live on.
        self.assertEqual(live.several([(9, "talk", 3), (14, "owe", 1), (18, "zz", 1)]), (True, True, False))
        self.assert_kept(live, lambda: live.several([(18, "plea", 1), (22, "zz", 1)]), 1)
        self.assertEqual(live.several([(18, "plea", 1), (21, "zz", 1)]), (True, False))
        live.wait()
        self.assertEqual((live.day, live.alive), (22, False))
        self.assert_kept(live, lambda: live.several([(22, "talk", 1)]), 0)
        self.assert_kept(live, lambda: live.several([(0, "talk", 1)]), 0)
        self.assertEqual(live.several(()), ())


class Undoing(LiveCase):
    def test_behind_each_sort_of_deed(self):
        live = Live(RULE)
        steps = [
            lambda: live.begin("talk", 2), lambda: live.wait(), lambda: live.begin("zz", 1), lambda: live.begin("talk"),
            lambda: live.several([(3, "owe", 1), (7, "plea", 1)]), lambda: live.several([]), lambda: live.wait(3),
            lambda: live.wait(50), lambda: live.wait(1), lambda: live.several(()),
        ]
        told = []
        for many, step in enumerate(steps):
            self.assertEqual(len(live), many)
            told.append(seen(live))
            step()
        self.assertIs(live.alive, False)
        while told:
            self.assertIs(live.undo(), True)
            self.assertEqual(seen(live), told.pop())
        for _ in range(3):
            self.assertIs(live.undo(), False)
            self.assertEqual(seen(live), seen(Live(RULE)))

    def test_what_was_taken_back_counts_again(self):
        live = Live(RULE)
        self.assertIs(live.begin("talk", 3), True)
        self.assertIs(live.begin("talk", 3), False)
        live.undo()
        live.undo()
        self.assertIs(live.begin("talk", 3), True)
        self.assertEqual(live.last, 14)

    def test_refusals_cannot_be_taken_back(self):
        live = Live(RULE)
        live.wait(2)
        self.assert_refused(lambda: live.begin(""), 2)
        self.assert_refused(lambda: live.several([None]), 0)
        self.assertEqual(len(live), 1)
        self.assertIs(live.undo(), True)
        self.assertEqual(seen(live), seen(Live(RULE)))


class Within(LiveCase):
    def prepared(self):
        live = Live(RULE)
        live.begin("talk", 3)
        live.wait(4)
        live.several([(5, "owe", 1)])
        live.undo()
        return live

    def assert_within(self, live, work):
        """What the work returned; all is as it was ahead."""
        ahead, history = seen(live), self.history(live)
        story = live.story
        returned = live.within(work)
        self.assertEqual((seen(live), self.history(live)), (ahead, history))
        self.assertEqual(live.story, story)
        return returned

    def test_what_it_returns(self):
        live = self.prepared()
        held = [1]
        self.assertIs(self.assert_within(live, lambda inner: held), held)
        self.assertIs(self.assert_within(live, lambda inner: inner), live)
        self.assertIsNone(self.assert_within(live, lambda inner: None))
        self.assertEqual(self.assert_within(live, seen), seen(live))

    def test_all_sorts_of_deeds(self):
        live = self.prepared()

        def work(inner):
            first = (inner.begin("owe"), inner.wait(6), inner.several([(10, "plea", 1), (11, "zz", 1)]))
            return first, seen(inner)[1:], inner.wait(BIG), inner.alive

        told = (11, "0 talk 3; 4 owe 1; 10 plea 1; 11 zz 1", 14, True, 5)
        self.assertEqual(self.assert_within(live, work), ((True, True, (True, False)), told, False, False))

    def test_work_that_undoes_what_was_done_ahead_of_it(self):
        live = self.prepared()

        def work(inner):
            undone = [inner.undo(), inner.undo(), inner.undo(), inner.undo()]
            inner.wait(2)
            inner.begin("plea")
            inner.undo()
            return undone, seen(inner)[1:]

        self.assertEqual(self.assert_within(live, work), ([True, True, False, False], (2, "", 9, True, 1)))
        self.assertEqual([live.undo(), live.undo(), live.undo()], [True, True, False])

    def test_errors_go_on(self):
        live = self.prepared()
        ahead, history = seen(live), self.history(live)
        for error in (ValueError("x"), KeyError("x"), Refused(7), KeyboardInterrupt(), ZeroDivisionError()):

            def work(inner):
                inner.undo()
                inner.undo()
                inner.wait(20)
                raise error

            with self.assertRaises(type(error)) as caught:
                live.within(work)
            self.assertIs(caught.exception, error)
            self.assertEqual((seen(live), self.history(live)), (ahead, history))
        self.assert_kept(live, lambda: live.within(lambda inner: inner.begin("", 1)), 4)
        self.assert_kept(live, lambda: live.within(lambda inner: (inner.undo(), inner.wait(20), inner.begin("a"))), 15)
        self.assertIs(live.begin("owe"), True)

    def test_one_within_another(self):
        live = self.prepared()
        told = []

        def innermost(inner):
            inner.undo()
            inner.undo()
            told.append(seen(inner))
            inner.wait(3)
            return "done"

        def work(inner):
            inner.wait(2)
            ahead = seen(inner)
            self.assertEqual(inner.within(innermost), "done")
            self.assertEqual(seen(inner), ahead)
            self.assert_refused(lambda: inner.within(lambda one: (one.undo(), one.several([5]))), 0)
            self.assertEqual(seen(inner), ahead)
            inner.undo()
            return len(inner)

        self.assertEqual(self.assert_within(live, work), 2)
        self.assertEqual(told[0][1], 0)

    def test_work_is_called_once_with_the_claim(self):
        live = self.prepared()
        told = []
        live.within(told.append)
        self.assertEqual(len(told), 1)
        self.assertIs(told[0], live)

    def test_it_cannot_be_taken_back(self):
        live = Live(RULE)
        live.within(lambda inner: inner.wait(3))
        self.assertEqual(len(live), 0)
        self.assertIs(live.undo(), False)


class Simulation(LiveCase):
    """Against a plain simulation that goes day by day."""

    def assert_done(self, live, told, draw):
        what = draw.choice(["begin", "begin", "begin", "wait", "wait", "several", "undo", "within"])
        if what == "begin":
            name, days = draw.choice([*told.rule.names, "zz"]), draw.randint(1, 5)
            if told.claim.lapsed:
                self.assert_kept(live, lambda: live.begin(name, days), told.day())
            else:
                self.assertEqual([live.begin(name, days)], told.do([("begin", name, days)]))
        elif what == "wait":
            many = draw.choice([1, 1, 2, 3, max(1, told.claim.last() - told.claim.day), 9])
            self.assertEqual([live.wait(many)], told.do([("wait", many)]))
        elif what == "several":
            self.assert_several(live, told, drawn_occasions(draw, told))
        elif what == "undo":
            self.assertIs(live.undo(), bool(told.deeds))
            told.deeds = told.deeds[:-1]
            told.replay()
        else:
            self.assert_kept_within(live, draw)
        self.assertEqual(seen(live), told.seen())
        self.assertEqual(live.rule, told.rule)
        if live.alive:
            self.assertEqual(live.standing(), (told.claim.left, told.claim.going))
        self.assertEqual(live.last, lapse(live.rule, live.story))

    def assert_several(self, live, told, occasions):
        at = told.refused(occasions)
        if at is not None:
            self.assert_kept(live, lambda: live.several(occasions), at)
            return
        deed, day = [], told.day()
        for begins, name, days in occasions:
            deed += [("wait", begins - day), ("begin", name, days)]
            day = begins
        self.assertEqual(live.several(occasions), tuple(told.do(deed)[1::2]))

    def assert_kept_within(self, live, draw):
        ahead = seen(live)

        def work(inner):
            for _ in range(draw.randint(0, 3)):
                inner.undo()
            inner.wait(draw.randint(1, 4))
            return inner.day

        self.assertIs(type(live.within(work)), int)
        self.assertEqual(seen(live), ahead)

    def test_drawn(self):
        draw = random.Random(180)
        for _ in range(250):
            rule = drawn_rule(draw)
            live, told = Live(rule), Told(rule)
            for _ in range(draw.randint(4, 25)):
                self.assert_done(live, told, draw)

    def test_all_is_taken_back_in_the_end(self):
        draw = random.Random(181)
        for _ in range(60):
            rule = drawn_rule(draw)
            live, told = Live(rule), Told(rule)
            for _ in range(15):
                self.assert_done(live, told, draw)
            for many in reversed(range(len(live))):
                self.assertIs(live.undo(), True)
                told.deeds = told.deeds[:many]
                told.replay()
                self.assertEqual(seen(live), told.seen())
            self.assertIs(live.undo(), False)


class Great(LiveCase):
    """At the limits of point [3]."""

    def test_waiting_for_ever_so_long(self):
        rule = Rule(BIG, (5, 6), None, [Still("talk", BIG, 3)])
        live = Live(rule)
        self.assertIs(live.wait(BIG - 1), True)
        self.assertEqual(live.day, BIG - 1)
        self.assertEqual(live.last, rule.work(BIG - 1))
        self.assertIs(live.begin("talk", BIG), True)
        self.assertEqual(live.last, rule.work(2 * BIG - 1))
        self.assertIs(live.wait(BIG), True)
        self.assertEqual(live.standing(), (1, 0))
        self.assertEqual(live.several([(live.last, "talk", 5)]), (True,))
        self.assertEqual(live.last, rule.work(rule.work(2 * BIG - 1) + 5))
        self.assertIs(live.wait(BIG), False)
        self.assertEqual(live.day, live.last + 1)
        self.assertEqual([live.undo() for _ in range(6)], [True] * 5 + [False])

    def test_waiting_behind_a_short_term(self):
        live = Live(Rule(1))
        self.assertIs(live.wait(BIG), False)
        self.assertEqual((live.day, live.last), (1, 0))
        self.assert_kept(live, lambda: live.several([(BIG, "a", 1)]), 0)

    def test_forty_occasions(self):
        live = Live(Rule(BIG, (), BIG, [Still("talk", 1)]))
        rows = [(at * 10**16, "talk", BIG) for at in range(40)]
        self.assertEqual(live.several(rows), (True,) * 40)
        self.assertEqual((live.last, len(live.story), len(live)), (BIG - 1, 40, 1))
        self.assertIs(live.wait(BIG), False)

    def test_work_that_waits_for_ever_so_long(self):
        live = Live(Rule(BIG, (5, 6), None, [Still("talk", BIG)]))
        live.wait(BIG - 7)
        ahead = seen(live)

        def work(inner):
            counted = inner.several([(BIG - 1, "talk", BIG)] * 20)
            return counted, inner.wait(BIG), inner.day, inner.last, inner.wait(BIG), inner.day

        # Both last days are working days: they leave 0 and 1 by 7.
        self.assertEqual(live.within(work), ((True,) * 20, True, 2 * BIG - 1, 2 * BIG - 1, False, 2 * BIG))
        self.assertEqual(seen(live), ahead)

    def test_many_deeds(self):
        live = Live(RULE)
        for _ in range(2000):
            live.several([])
        self.assertEqual(len(live), 2000)
        self.assertEqual(live.within(lambda inner: [inner.undo() for _ in range(2001)].count(True)), 2000)
        self.assertEqual(len(live), 2000)
