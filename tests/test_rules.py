"""Point [6]: rules."""

import itertools
import unittest

from tests.any_values import any_values, but, is_count, is_listing, objects
from termstill.errors import InvalidRule, InvalidText, NoKind
from termstill.kinds import Anew, Kind, Lift, Still
from termstill.rules import Rule

BIG = 10**18
TEXT = "term 10 rests 5 6 cap none\nstill talk 3 1\nanew owe 5 1\nlift plea 2 4 1"
TALK = Still("talk", 3, 1)
OWE = Anew("owe", 5, 1)
PLEA = Lift("plea", 2, 4, 1)
GOOD = {"length": 10, "rests": [5, 6], "cap": 30, "kinds": [TALK, OWE]}


def word_of(arguments):
    """The word of the InvalidRule that is raised, or None."""
    try:
        Rule(**arguments)
    except InvalidRule as error:
        return error.word
    return None


def state(rule):
    return (rule.length, rule.rests, rule.cap, rule.kinds, rule.names, len(rule), str(rule))


class Making(unittest.TestCase):
    def test_attributes(self):
        rule = Rule(10, [6, 0, 5], 30, [PLEA, TALK])
        self.assertEqual((rule.length, rule.rests, rule.cap), (10, (0, 5, 6), 30))
        self.assertEqual(rule.kinds, (PLEA, TALK))
        self.assertEqual(rule.names, ("plea", "talk"))
        self.assertIs(rule.kinds[0], PLEA)
        self.assertEqual(len(rule), 2)
        self.assertEqual(state(Rule(kinds=(PLEA, TALK), cap=30, rests=(5, 6, 0), length=10)), state(rule))

    def test_arguments_that_are_left_out(self):
        rule = Rule(1)
        self.assertEqual(state(rule), (1, (), None, (), (), 0, "term 1 rests none cap none"))
        self.assertEqual(state(Rule(1, [], None, [])), state(rule))

    def test_sequences_are_tuples_and_stay(self):
        rests, kinds = [3, 1], [TALK]
        rule = Rule(5, rests, None, kinds)
        ahead = state(rule)
        rests.append(2)
        kinds.append(OWE)
        self.assertEqual(state(rule), ahead)
        self.assertEqual((rests, kinds), ([3, 1, 2], [TALK, OWE]))
        for value in (rule.rests, rule.kinds, rule.names):
            self.assertIs(type(value), tuple)

    def test_right_arguments(self):
        for changed in [
            {"length": 1}, {"length": BIG}, {"rests": []}, {"rests": ()}, {"rests": [0]}, {"rests": (6, 5, 4, 3, 2, 1)},
            {"rests": [0, 1, 2, 3, 4, 5]}, {"cap": None}, {"cap": 1}, {"cap": BIG}, {"kinds": ()}, {"kinds": [TALK]},
            {"kinds": (PLEA, OWE, TALK, Still("x", BIG, BIG))},
        ]:
            self.assertIsNone(word_of({**GOOD, **changed}), changed)

    def test_wrong_arguments(self):
        wrong = {
            "length": [0, -1, True, False, None, "1", [1], TALK],
            "rests": [
                None, 0, 1, "", "5", "none", [7], [-1], [True], [False], [0, True], [1, True], [None], ["5"], [[5]],
                [5, 5], (0, 0), [0, 1, 2, 3, 4, 5, 6], [0, 1, 2, 3, 4, 5, 0], [TALK], [5, 6, "x"], True, TALK,
            ],
            "cap": [0, -1, True, False, "none", "1", [], [5], TALK],
            "kinds": [
                None, 0, "", "talk", TALK, ["talk"], [None], [TALK, "owe"], [TALK, TALK], [TALK, Still("talk", 9)],
                [TALK, Anew("talk", 3)], (OWE, TALK, Lift("owe", 1, 1)), [[TALK]], [(TALK, OWE)], [Rule(1)], Rule(1),
                [Kind], [Still], "still talk 3 1", ["still talk 3 1"],
            ],
        }
        for word, values in wrong.items():
            for value in values:
                self.assertEqual(word_of({**GOOD, word: value}), word, value)

    def test_any_value_at_each_place(self):
        def right(word, value):
            if word == "length":
                return is_count(value)
            if word == "cap":
                return value is None or is_count(value)
            if not is_listing(value):
                return False
            if word == "rests":
                return all(type(rest) is int and 0 <= rest <= 6 for rest in value)
            return all(isinstance(kind, Kind) for kind in value) and len(value) < 2

        for word in GOOD:
            for value in any_values():
                for one in [value] if word in ("length", "cap") else [value, [value], (value,)]:
                    expected = None if right(word, one) else word
                    self.assertEqual(word_of({**GOOD, word: one}), expected)

    def test_the_first_wrong_argument_is_told(self):
        for many in range(1, 5):
            for words in itertools.combinations(GOOD, many):
                for wrong in (0, True, "x", [None]):
                    self.assertEqual(word_of({**GOOD, **{word: wrong for word in words}}), words[0])
        with self.assertRaises(InvalidRule) as caught:
            Rule(1, (), 0, None)
        self.assertEqual(caught.exception.word, "cap")


class Asking(unittest.TestCase):
    def setUp(self):
        self.rule = Rule(10, [5, 6], None, [TALK, OWE, PLEA])
        self.ahead = state(self.rule)

    def tearDown(self):
        self.assertEqual(state(self.rule), self.ahead)

    def test_kind(self):
        self.assertIs(self.rule.kind("talk"), TALK)
        self.assertIs(self.rule.kind("owe"), OWE)
        self.assertIs(self.rule.kind(name="plea"), PLEA)

    def test_kind_with_any_value(self):
        for value in but(lambda value: isinstance(value, str) and value == "talk") + ["Owe", "owe ", "plea\n"]:
            with self.assertRaises(NoKind) as caught:
                self.rule.kind(value)
            self.assertIs(caught.exception.name, value)

    def test_work(self):
        self.assertEqual([self.rule.work(day) for day in range(15)], [0, 1, 2, 3, 4, 7, 7, 7, 8, 9, 10, 11, 14, 14, 14])
        self.assertEqual(Rule(1).work(5), 5)
        self.assertEqual(Rule(1, [0, 1, 2, 3, 4, 5]).work(day=7), 13)
        self.assertEqual(Rule(1, [0, 6]).work(6), 8)
        for rests in itertools.combinations(range(7), 6):
            for day in [*range(15), *range(BIG, BIG + 8)]:
                expected = next(later for later in range(day, day + 7) if later % 7 not in rests)
                self.assertEqual(Rule(1, rests).work(day), expected)

    def test_only(self):
        for names, text in [
            (["plea", "talk"], "term 10 rests 5 6 cap none\nstill talk 3 1\nlift plea 2 4 1"),
            (("owe",), "term 10 rests 5 6 cap none\nanew owe 5 1"),
            (["owe", "owe"], "term 10 rests 5 6 cap none\nanew owe 5 1"),
            ([], "term 10 rests 5 6 cap none"),
            (("plea", "owe", "talk"), TEXT),
        ]:
            given = list(names)
            self.assertEqual(str(self.rule.only(names)), text)
            self.assertEqual(list(names), given)
        self.assertEqual(str(Rule(3, (1,), 9, [TALK]).only(names=())), "term 3 rests 1 cap 9")
        self.assertEqual(self.rule.only(["plea", "talk"]).names, ("talk", "plea"))

    def test_only_with_any_value(self):
        for value in but(lambda value: isinstance(value, str) and value == "talk"):
            for names in ([value], ["talk", value], (value, "x", None), ["owe", "owe", value, value]):
                with self.assertRaises(NoKind) as caught:
                    self.rule.only(names)
                self.assertIs(caught.exception.name, value)
        with self.assertRaises(NoKind) as caught:
            self.rule.only(["talk", "Owe", "x"])
        self.assertEqual(caught.exception.name, "Owe")

    def test_only_takes_no_string_for_a_sequence(self):
        with self.assertRaises(NoKind) as caught:
            Rule(1, (), None, [Still("a", 1), Still("b", 1)]).only("ab")
        self.assertEqual(caught.exception.name, "ab")

    def test_add(self):
        debt = Anew("debt", 2)
        more = self.rule + debt
        self.assertEqual(str(more), TEXT + "\nanew debt 2 any")
        self.assertEqual(more.names, ("talk", "owe", "plea", "debt"))
        self.assertEqual(str(Rule(3, [4, 1], 7) + TALK), "term 3 rests 1 4 cap 7\nstill talk 3 1")

    def test_add_in_place_gives_a_new_object(self):
        rule = held = self.rule
        rule += Anew("debt", 2)
        self.assertIsNot(rule, held)
        self.assertEqual(len(rule), 4)
        self.assertEqual(len(held), 3)

    def test_add_of_a_name_that_is_there(self):
        for kind in (TALK, Anew("talk", 1), Lift("plea", 2, 4, 1), Still("owe", 1)):
            with self.assertRaises(InvalidRule) as caught:
                self.rule + kind
            self.assertEqual(caught.exception.word, "kinds")

    def test_add_of_anything_but_a_kind(self):
        for value in but(lambda value: isinstance(value, Kind)) + ["still x 1 any", Kind, {}]:
            with self.assertRaises(TypeError):
                self.rule + value
            with self.assertRaises(TypeError):
                value + self.rule
            with self.assertRaises(TypeError):
                rule = self.rule
                rule += value

    def test_rules_are_not_iterable(self):
        for rule in (self.rule, Rule(1)):
            for ask in (iter, list, tuple, sorted, lambda value: "talk" in value, lambda value: value[0]):
                with self.assertRaises(TypeError):
                    ask(rule)


class Texts(unittest.TestCase):
    def test_str(self):
        self.assertEqual(str(Rule(10, [6, 5], None, [TALK, OWE, PLEA])), TEXT)
        self.assertEqual(str(Rule(BIG, (), BIG)), f"term {BIG} rests none cap {BIG}")
        self.assertEqual(str(Rule(1, [5, 0, 3, 1, 4, 2], 2, [OWE])), "term 1 rests 0 1 2 3 4 5 cap 2\nanew owe 5 1")

    def test_read(self):
        rule = Rule.read(TEXT)
        self.assertEqual((rule.length, rule.rests, rule.cap), (10, (5, 6), None))
        self.assertEqual(rule.kinds, (TALK, OWE, PLEA))
        self.assertEqual(str(Rule.read(text="term 3 rests 6 0 4 cap 8")), "term 3 rests 0 4 6 cap 8")
        numbers, rests = (1, 10, BIG, 10**19 - 1), ((), (0,), (5, 6), (0, 1, 2, 3, 4, 6))
        for length, days, cap in itertools.product(numbers, rests, (None, *numbers)):
            for kinds in ([], [TALK], [PLEA, Still("a", BIG, BIG), OWE, Anew("none"[1:], 1)]):
                rule = Rule(length, days, cap, kinds)
                self.assertEqual(state(Rule.read(str(rule))), state(rule))

    def assert_text_fails(self, text, at):
        with self.assertRaises(InvalidText, msg=repr(text)) as caught:
            Rule.read(text)
        self.assertEqual(caught.exception.at, at, repr(text))

    def test_first_line_that_is_not_of_its_form(self):
        for line in [
            "", " ", "term", "term 10", "term 10 rests", "term 10 rests none", "term 10 rests none cap",
            "rests none cap none",
            "term 10 rests cap none", "term 10 rests  cap none", "term rests none cap none", "term 10 none cap none",
            "term 10 rests none cap none ", " term 10 rests none cap none", "term  10 rests none cap none",
            "term 10 rests none  cap none", "term 10 rests 5  6 cap none", "term 10 rests none cap none none",
            "term 10 rests none cap 5 5", "term 10 10 rests none cap none", "term any rests none cap none",
            "term none rests none cap none", "term 10 rests any cap none", "term 10 rests none cap any",
            "term 10 rests none none cap none", "term 10 rests 5 none cap none", "term 10 rests none 5 cap none",
            "term 10 rests 56 cap none", "term 10 rests 05 cap none", "term 10 rests 10 cap none",
            "term 10 rests -1 cap none",
            "term 10 rests 5, 6 cap none", "term 10 rests 5 x cap none", "term 010 rests none cap none",
            "term 00 rests none cap none", "term 10 rests none cap 00", "term 10 rests none cap 07",
            "term +1 rests none cap none",
            "term -1 rests none cap none", "term 10 rests none cap -1", "term 1.0 rests none cap none",
            "term 1_0 rests none cap none",
            "term " + "1" * 20 + " rests none cap none", "term 10 rests none cap " + "1" * 20,
            "Term 10 rests none cap none",
            "term 10 Rests none cap none", "term 10 rests none Cap none", "term 10 rests None cap none",
            "still talk 3 1",
            "term 10 cap none rests none", "term 10 rests \u0665 cap none", "term \u0661 rests none cap none",
            "term 10 rests 5\t6 cap none",
            "term 10 rests none cap none\r", "term 10 rests 5 cap cap none", "rule 10 rests none cap none",
        ]:
            self.assert_text_fails(line, 0)
            self.assert_text_fails(line + "\nstill talk 3 1", 0)
            self.assert_text_fails(line + "\nx", 0)
        self.assert_text_fails("\n" + TEXT, 0)

    def test_later_lines_that_are_not_of_their_form(self):
        lines = TEXT.split("\n")
        for at in range(1, 4):
            for line in [
                "", " ", "x", lines[0], "still talk 0 1", "still talk 3", "still talk 3 1 ", " anew owe 5 1",
                "lift plea 2 4",
                "still any 3 1", "still talk 03 1", "still talk 3 0", "still talk 3 none", "lift plea 2 4 1 1",
                "still talk 3 1; x",
                "still talk 3 " + "1" * 20,
            ]:
                self.assert_text_fails("\n".join(lines[:at] + [line] + lines[at + 1 :]), at)
                # A later line that is wrong, too, and a rule that could not be made do not matter.
                self.assert_text_fails("\n".join(["term 0 rests 7 cap 0"] + lines[1:at] + [line, "x", "x"]), at)
                self.assert_text_fails("\n".join(lines[:at] + [line] + lines[1:]), at)
        self.assert_text_fails(TEXT + "\n", 4)
        self.assert_text_fails(TEXT + "\n\n", 4)
        self.assert_text_fails("term 10 rests none cap none\n", 1)
        self.assert_text_fails("term 10 rests none cap none\nstill talk 3 1\nstill talk 3 1\nx", 3)

    def test_texts_of_the_form_that_make_no_rule(self):
        for text, word in [
            ("term 0 rests none cap none", "length"),
            ("term 0 rests 7 cap 0\nstill a 1 1\nanew a 1 1", "length"),
            ("term 1 rests 7 cap none", "rests"),
            ("term 1 rests 5 9 cap none", "rests"),
            ("term 1 rests 8 cap 0", "rests"),
            ("term 1 rests 5 5 cap none", "rests"),
            ("term 1 rests 0 1 2 3 4 5 6 cap none", "rests"),
            ("term 1 rests 0 1 2 3 4 5 6 7 8 9 cap none", "rests"),
            ("term 1 rests 6 cap 0", "cap"),
            ("term 1 rests none cap 0\nstill a 1 1\nanew a 1 1", "cap"),
            ("term 1 rests none cap 1\nstill a 1 1\nanew a 1 1", "kinds"),
            (TEXT + "\nstill owe 1 any", "kinds"),
        ]:
            with self.assertRaises(InvalidRule, msg=text) as caught:
                Rule.read(text)
            self.assertEqual(caught.exception.word, word)

    def test_rests_in_any_order(self):
        for rests in itertools.permutations("0256"):
            rule = Rule.read(f"term 4 rests {' '.join(rests)} cap none")
            self.assertEqual(rule.rests, (0, 2, 5, 6))
            self.assertEqual(str(rule), "term 4 rests 0 2 5 6 cap none")

    def test_a_text_of_the_greatest_size(self):
        text = "term 10 rests none cap none\n" + "\n".join(["still talk 3 1"] * 90)
        self.assertLessEqual(len(text), 1500)
        with self.assertRaises(InvalidRule) as caught:
            Rule.read(text)
        self.assertEqual(caught.exception.word, "kinds")
        self.assert_text_fails(text + "\nx", 91)
        self.assert_text_fails("\n" * 1500, 0)


class Equality(unittest.TestCase):
    def test_rules_are_equal_by_text(self):
        texts = [
            "term 3 rests none cap none", "term 4 rests none cap none", "term 3 rests 0 cap none",
            "term 3 rests none cap 3",
            "term 3 rests none cap none\nstill a 1 1", "term 3 rests none cap none\nanew a 1 1",
            "term 3 rests none cap none\nstill a 1 1\nstill b 1 1",
            "term 3 rests none cap none\nstill b 1 1\nstill a 1 1",
        ]
        for one, two in itertools.product(texts, texts):
            self.assertIs(Rule.read(one) == Rule.read(two), one == two)
            self.assertIs(Rule.read(one) != Rule.read(two), one != two)
        self.assertTrue(Rule(3, [6, 5]) == Rule(3, (5, 6)))

    def test_rules_are_equal_to_nothing_else(self):
        for rule in (Rule(1), Rule.read(TEXT)):
            for value in but(lambda value: isinstance(value, Rule)) + [str(rule), [rule], (rule,), 1.5, {}, object()]:
                self.assertIs(rule == value, False)
                self.assertIs(value == rule, False)
                self.assertIs(rule != value, True)
                self.assertIs(value != rule, True)

    def test_a_rule_without_kinds_is_still_compared(self):
        self.assertEqual(objects()[3], Rule(1))
