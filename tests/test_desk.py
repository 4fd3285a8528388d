"""Points [19] and [20]: desks."""

import random
import unittest

from tests.any_values import BAD_NAMES, any_values
from tests.by_days import drawn_rule, drawn_rules
from termstill.bounds import latest
from termstill.desk import Desk
from termstill.errors import InvalidCommand, InvalidRule, InvalidText, Refused
from termstill.live import Live
from termstill.rules import Rule

BIG = 10**18
RULE = Rule.read("term 10 rests 5 6 cap none\nstill talk 3 1\nanew owe 5 1\nlift plea 2 4 1")
TOLD = "rule term 10 rests 5 6 cap none ; still talk 3 1 ; anew owe 5 1 ; lift plea 2 4 1"
GOOD = ["begin talk 3", "wait 1", "stands", "story", "latest", "undo"]
BAD_NUMBERS = [
    "0", "00", "01", "007", "-1", "+1", "1.0", "1e3", "1_0", "x", "any", "none", str(10**19), "1" * 20, "0" * 19,
    "\u0661", "\u00b2", "1\t", "1\r", "one",
]


def rule_command(rule):
    return "rule " + str(rule).replace("\n", " ; ")


def seen(desk):
    live = desk.live
    if live is None:
        return None
    return (live, live.rule, live.day, str(live.story), live.last, live.alive, len(live))


class DeskCase(unittest.TestCase):
    def assert_error(self, desk, command, made, **attributes):
        """The command raises just this error, and nothing changes."""
        ahead = seen(desk)
        with self.assertRaises(made) as caught:
            desk.say(command)
        self.assertIs(type(caught.exception), made, command)
        self.assertEqual(vars(caught.exception), attributes)
        self.assertEqual(seen(desk), ahead)

    def assert_said(self, desk, *pairs):
        for command, result in pairs:
            self.assertEqual(desk.say(command), result, command)

    def desks(self):
        """Desks without a live claim, with one ahead of, at and behind its lapse."""
        told = [Desk()]
        for waited in (0, 3, 9, 10):
            desk = Desk()
            desk.say(TOLD)
            if waited:
                desk.say(f"wait {waited}")
            told.append(desk)
        return told


class Calling(DeskCase):
    def test_parameter_names(self):
        desk = Desk()
        self.assertEqual(desk.say(command=TOLD), "9")
        with self.assertRaises(TypeError):
            desk.say()
        with self.assertRaises(TypeError):
            Desk(RULE)

    def test_the_live_claim(self):
        desk = Desk()
        self.assertIsNone(desk.live)
        self.assertEqual(vars(desk), {"live": None})
        desk.say(TOLD)
        self.assertIs(type(desk.live), Live)
        self.assertEqual(desk.live.rule, RULE)
        held = desk.live
        desk.say("wait 2")
        self.assertIs(desk.live, held)
        self.assertEqual((held.day, len(held)), (2, 1))
        # What is done to the live claim is seen at the desk.
        held.begin("talk", 2)
        self.assert_said(desk, ("stands", "8 2"), ("story", "2 talk 2"), ("undo", "undone"), ("undo", "undone"))
        self.assertEqual(held.day, 0)

    def test_results_are_strings(self):
        desk = Desk()
        for command in (TOLD, *GOOD):
            self.assertIs(type(desk.say(command)), str)

    def test_it_is_not_iterated(self):
        for desk in self.desks():
            for call in (iter, list, len, lambda value: value[0]):
                with self.assertRaises(TypeError):
                    call(desk)


class Commands(DeskCase):
    """Point [19]."""

    def test_ahead_of_at_and_behind_the_lapse(self):
        desk = Desk()
        self.assert_said(
            desk, (TOLD, "9"), ("stands", "10 0"), ("story", "empty"), ("latest", "21"), ("undo", "nothing"),
            ("wait 8", "lives"), ("stands", "2 0"), ("wait 1", "lives"), ("stands", "1 0"), ("begin zz 5", "9"),
            ("begin talk 3", "14"), ("stands", "1 3"), ("begin talk 2", "14"), ("wait 2", "lives"), ("stands", "1 1"),
            ("wait 2", "lives"), ("stands", "0 0"), ("story", "9 zz 5; 9 talk 3; 9 talk 2"), ("wait 1", "lives"),
            ("begin owe 1", "18"), ("stands", "5 0"), ("latest", "21"), ("wait 5", "lapsed"), ("stands", "lapsed 18"),
            ("story", "9 zz 5; 9 talk 3; 9 talk 2; 14 owe 1"), ("latest", "21"), ("wait 9", "lapsed"),
            ("stands", "lapsed 18"),
        )
        self.assert_error(desk, "begin plea 1", Refused, at=19)
        self.assert_error(desk, "begin zz 1", Refused, at=19)

    def test_undo_down_to_the_first_state(self):
        desk = Desk()
        self.assert_said(
            desk, (TOLD, "9"), ("begin talk 1", "10"), ("wait 10", "lives"), ("wait 1", "lapsed"), ("wait 1", "lapsed"),
            ("undo", "undone"), ("stands", "lapsed 10"), ("undo", "undone"), ("stands", "1 0"), ("undo", "undone"),
            ("stands", "10 1"), ("story", "0 talk 1"), ("undo", "undone"), ("stands", "10 0"), ("story", "empty"),
            ("undo", "nothing"), ("undo", "nothing"), ("stands", "10 0"), ("begin talk 3", "14"),
        )

    def test_a_rule_anew(self):
        desk = Desk()
        self.assert_said(desk, (TOLD, "9"), ("wait 5", "lives"))
        first = desk.live
        self.assert_said(desk, ("rule term 3 rests none cap 2", "1"), ("stands", "3 0"), ("undo", "nothing"))
        self.assertIsNot(desk.live, first)
        self.assertEqual((first.day, len(first)), (5, 1))
        self.assert_said(desk, ("wait 9", "lapsed"), ("rule term 3 rests none cap none", "2"), ("stands", "3 0"))
        # Also by the same rule once more.
        self.assert_said(desk, ("wait 2", "lives"), ("rule term 3 rests none cap none", "2"), ("stands", "3 0"))

    def test_latest(self):
        desk = Desk()
        for text, result in (
            ("term 3 rests none cap none ; still talk 1 any", "ever"),
            ("term 3 rests none cap 9 ; still talk 1 any", "8"), ("term 3 rests none cap none", "2"),
            ("term 6 rests 6 5 cap none ; still talk 1 1", "8"),
        ):
            desk.say("rule " + text)
            self.assert_said(desk, ("latest", result), ("wait 30", "lapsed"), ("latest", result))

    def test_the_order_of_rests_is_free(self):
        desk = Desk()
        self.assert_said(desk, ("rule term 6 rests 6 5 cap none", "7"))
        self.assertEqual(desk.live.rule.rests, (5, 6))

    def test_words_like_commands_are_names(self):
        desk = Desk()
        desk.say("rule term 3 rests none cap none ; still wait 2 1 ; still undo 1 1 ; still rule 1 1")
        self.assert_said(desk, ("begin wait 2", "4"), ("begin undo 9", "4"), ("begin rule 1", "4"), ("begin no 1", "4"))
        self.assert_said(desk, ("story", "0 wait 2; 0 undo 9; 0 rule 1; 0 no 1"))

    def test_two_desks_beside_one_another(self):
        one, two = Desk(), Desk()
        self.assert_said(one, (TOLD, "9"), ("wait 3", "lives"))
        self.assertIsNone(two.live)
        self.assert_error(two, "stands", InvalidCommand)
        self.assert_said(two, (TOLD, "9"), ("stands", "10 0"), ("begin talk 3", "14"), ("undo", "undone"))
        self.assert_said(one, ("stands", "7 0"), ("story", "empty"), ("undo", "undone"), ("undo", "nothing"))

    def test_against_live_claims(self):
        draw = random.Random(190)
        for rule in drawn_rules(191, 150):
            desk, live = Desk(), Live(rule)
            self.assertEqual(desk.say(rule_command(rule)), str(live.last))
            for _ in range(draw.randint(1, 15)):
                what = draw.choice(["begin", "begin", "wait", "wait", "undo"])
                if what == "begin":
                    name, days = draw.choice([*rule.names, "zz"]), draw.randint(1, 9)
                    if not live.alive:
                        self.assert_error(desk, f"begin {name} {days}", Refused, at=live.day)
                        continue
                    live.begin(name, days)
                    self.assertEqual(desk.say(f"begin {name} {days}"), str(live.last))
                elif what == "wait":
                    many = draw.randint(1, 6)
                    self.assertEqual(desk.say(f"wait {many}"), "lives" if live.wait(many) else "lapsed")
                else:
                    self.assertEqual(desk.say("undo"), "undone" if live.undo() else "nothing")
                left, going = live.standing()
                expected = f"{left} {going}" if live.alive else f"lapsed {live.last}"
                last = "ever" if latest(rule) is None else str(latest(rule))
                self.assert_said(desk, ("stands", expected), ("story", str(live.story) or "empty"), ("latest", last))
                self.assertEqual(seen(desk)[1:], (rule, live.day, str(live.story), live.last, live.alive, len(live)))


class Wrong(DeskCase):
    """Point [20]."""

    def test_any_values(self):
        for desk in self.desks():
            for value in any_values():
                # Among them there is no command; only strings can be some.
                self.assertNotIn(value, [TOLD, *GOOD])
                self.assert_error(desk, value, InvalidCommand)
            self.assert_error(desk, [TOLD], InvalidCommand)
            self.assert_error(desk, ("stands",), InvalidCommand)

    def test_newlines(self):
        for desk in self.desks():
            for command in [TOLD, *GOOD]:
                for at in (0, 4, len(command)):
                    self.assert_error(desk, command[:at] + "\n" + command[at:], InvalidCommand)
                self.assert_error(desk, command.replace(" ", "\n", 1) if " " in command else "\n", InvalidCommand)
            self.assert_error(desk, TOLD.replace(" ; ", "\n"), InvalidCommand)
            self.assert_error(desk, TOLD.replace(" ; ", " \n "), InvalidCommand)
            self.assert_error(desk, "rule x\ny", InvalidCommand)

    def test_empty_words(self):
        for desk in self.desks():
            self.assert_error(desk, "", InvalidCommand)
            self.assert_error(desk, " ", InvalidCommand)
            for command in [TOLD, *GOOD]:
                for wrong in (" " + command, command + " ", command.replace(" ", "  ", 1) + " " * (" " not in command)):
                    self.assert_error(desk, wrong, InvalidCommand)
            self.assert_error(desk, TOLD[:-5] + " " + TOLD[-5:], InvalidCommand)
            self.assert_error(desk, "rule ", InvalidCommand)
            self.assert_error(desk, "rule  ; ", InvalidCommand)

    def test_unknown_words_and_other_signs(self):
        for desk in self.desks():
            for command in ("begins talk 3", "Begin talk 3", "waits 1", "WAIT 1", "stand", "standing", "lapse", "last",
                            "within", "several", "quit", ";", "rule;", "undo;", "Rule term 3 rests none cap none",
                            "stands\t", "wait\t1", "begin\ttalk 3", "undo\r", "stands\u00a0"):
                self.assert_error(desk, command, InvalidCommand)

    def test_words_too_few_or_too_many(self):
        for desk in self.desks():
            for command in ("rule", "begin", "begin talk", "begin talk 3 1", "begin 3", "begin 3 talk",
                            "begin talk 3 talk", "wait", "wait 1 1", "wait talk", "stands 1", "stands stands",
                            "story empty", "story 1", "latest 1", "latest ever", "undo 1", "undo undo"):
                self.assert_error(desk, command, InvalidCommand)

    def test_wrong_numbers_and_names(self):
        for desk in self.desks():
            for number in BAD_NUMBERS:
                self.assert_error(desk, f"wait {number}", InvalidCommand)
                self.assert_error(desk, f"begin talk {number}", InvalidCommand)
                self.assert_error(desk, f"begin zz {number}", InvalidCommand)
            for name in BAD_NAMES:
                self.assert_error(desk, f"begin {name} 1", InvalidCommand)

    def test_without_a_live_claim(self):
        desk = Desk()
        for command in GOOD:
            self.assert_error(desk, command, InvalidCommand)
            self.assertIsNone(desk.live)
        # Also behind a rule that cannot be read.
        self.assert_error(desk, "rule term", InvalidText, at=0)
        for command in GOOD:
            self.assert_error(desk, command, InvalidCommand)

    def test_rules_that_cannot_be_read(self):
        first = "term 10 rests none cap none"
        for desk in self.desks():
            for text, at in (
                ("x", 0), ("term", 0), (";", 0), ("; " + first, 0), (first + " ;", 0), (first + " ; ;", 1),
                (first + " ; x", 1), (first + " ; still talk 3", 1), (first + " ; still talk 0 1", 1),
                (first + " ; still talk 3 1 ; still owe 3 01", 2), (first + ";still talk 3 1", 0),
                (first + " ; still talk 3 1; still owe 1 1", 1), ("term 10 rests none cap none stands", 0),
                ("term 010 rests none cap none", 0), ("stands", 0), ("rule " + first, 0),
                (f"term {10**19} rests none cap none", 0), (first + f" ; still talk {10**19} 1", 1),
                (first + " ; still any 3 1", 1),
            ):
                self.assert_error(desk, "rule " + text, InvalidText, at=at)
            for text, word in (
                ("term 0 rests none cap none", "length"), ("term 1 rests 7 cap none", "rests"),
                ("term 1 rests 1 1 cap none", "rests"), ("term 1 rests 0 1 2 3 4 5 6 cap none", "rests"),
                ("term 1 rests none cap 0", "cap"), ("term 0 rests 9 cap 0", "length"),
                (first + " ; still talk 3 1 ; anew talk 3 1", "kinds"),
            ):
                self.assert_error(desk, "rule " + text, InvalidRule, word=word)

    def test_newlines_stand_from_left_to_right(self):
        first = "term 10 rests none cap none"
        desk = Desk()
        # Of two in a row that share a space, the first one is replaced; the second one stays with its line.
        self.assert_error(desk, f"rule {first} ; ; still talk 3 1", InvalidText, at=1)
        self.assert_error(desk, f"rule {first} ; still talk 3 1 ; ; anew owe 1 1", InvalidText, at=2)
        self.assert_error(desk, f"rule {first} ; ; ; still talk 3 1", InvalidText, at=1)
        self.assert_error(desk, f"rule x ; {first}", InvalidText, at=0)
        self.assert_said(desk, (f"rule {first} ; still talk 3 1 ; anew owe 1 1", "9"))
        self.assertEqual(desk.live.rule.names, ("talk", "owe"))

    def test_refusals_of_the_live_claim(self):
        desk = Desk()
        self.assert_said(desk, (TOLD, "9"), ("wait 10", "lapsed"))
        self.assert_error(desk, "begin talk 3", Refused, at=10)
        # A wrong command is one behind the lapse, too.
        self.assert_error(desk, "begin talk 0", InvalidCommand)
        self.assert_error(desk, "begin any 1", InvalidCommand)
        self.assert_said(desk, ("undo", "undone"), ("begin talk 3", "14"))

    def test_the_old_claim_stays_behind_a_rule_that_cannot_be_read(self):
        desk = Desk()
        self.assert_said(desk, (TOLD, "9"), ("wait 3", "lives"), ("begin talk 3", "14"))
        held = desk.live
        self.assert_error(desk, "rule term 0 rests none cap none", InvalidRule, word="length")
        self.assert_error(desk, "rule term 3", InvalidText, at=0)
        self.assert_error(desk, "rule", InvalidCommand)
        self.assertIs(desk.live, held)
        self.assert_said(desk, ("stands", "7 3"), ("undo", "undone"), ("undo", "undone"), ("undo", "nothing"))


class Great(DeskCase):
    """At the limits of point [3]."""

    def test_waiting_for_ever_so_long(self):
        desk = Desk()
        self.assert_said(
            desk, (f"rule term {BIG} rests none cap none ; still talk {BIG} 3", str(BIG - 1)),
            (f"wait {BIG - 1}", "lives"), ("stands", "1 0"), (f"begin talk {BIG}", str(2 * BIG - 1)),
            (f"wait {BIG}", "lives"), ("stands", "1 0"), (f"begin talk {10**19 - 1}", str(3 * BIG - 1)),
            (f"wait {10**19 - 1}", "lapsed"), ("stands", f"lapsed {3 * BIG - 1}"), ("latest", str(4 * BIG - 1)),
            ("undo", "undone"), ("stands", f"1 {BIG}"),
        )

    def test_the_greatest_rule(self):
        desk = Desk()
        kinds = [f"still a {BIG} 3", f"anew b {BIG} 3", f"lift c {BIG} {BIG} 3", f"lift d {BIG} {BIG} 3"]
        desk.say(f"rule term {BIG} rests 0 1 2 3 4 5 cap {BIG} ; " + " ; ".join(kinds))
        self.assert_said(desk, (f"wait {BIG - 2}", "lives"), (f"begin d {BIG}", str(BIG - 1)), ("latest", str(BIG - 1)))
        self.assert_said(desk, ("stands", f"{BIG} 0"), ("wait 2", "lapsed"), ("stands", f"lapsed {BIG - 1}"))

    def test_the_longest_story(self):
        desk = Desk()
        desk.say(TOLD)
        for at in range(40):
            self.assertEqual(desk.say(f"begin zz {at + 1}"), "9")
        self.assertEqual(desk.say("story"), "; ".join(f"0 zz {at + 1}" for at in range(40)))

    def test_drawn_rules(self):
        draw = random.Random(192)
        for _ in range(200):
            rule = drawn_rule(draw)
            desk = Desk()
            self.assertEqual(desk.say(rule_command(rule)), str(Live(rule).last))
            self.assertEqual(desk.live.rule, rule)
