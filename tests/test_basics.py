"""Points [1] to [3] and the interface: what holds for all modules."""

import copy
import importlib
import inspect
import itertools
import unittest

from tests.any_values import any_values, objects
from termstill import basics
from termstill.bounds import fewest, keepers, latest, latest_by, latest_story, needless
from termstill.errors import InvalidKind, InvalidRule, InvalidStory, NoKind
from termstill.kinds import Anew, Kind, Lift, Still
from termstill.lapses import counted, lapse, standing
from termstill.orders import greatest_order, in_order, least_order, told_story
from termstill.papers import paper, paper_holds
from termstill.rules import Rule
from termstill.stories import Story

BIG = 10**18
# What the interface lists: files, their functions with their parameters, and their classes with their methods.
INTERFACE = {
    "errors": {
        "TermError": {}, "InvalidKind": {"__init__": "word"}, "InvalidRule": {"__init__": "word"},
        "InvalidStory": {"__init__": "at"}, "InvalidUnsure": {"__init__": "at"}, "InvalidText": {"__init__": "at"},
        "InvalidCommand": {"__init__": ""}, "Refused": {"__init__": "at"}, "NoKind": {"__init__": "name"},
    },
    "kinds": {
        "Kind": {"read": "text", "__eq__": None, "__str__": None},
        "Still": {"__init__": "name days times=None"}, "Anew": {"__init__": "name left times=None"},
        "Lift": {"__init__": "name by top times=None"},
    },
    "rules": {
        "Rule": {
            "__init__": "length rests=() cap=None kinds=()", "kind": "name", "work": "day", "only": "names",
            "read": "text",
            "__len__": None, "__add__": None, "__eq__": None, "__str__": None,
        },
    },
    "stories": {
        "Story": {
            "__init__": "occasions=()", "upto": "day", "further": "occasions", "read": "text", "__len__": None,
            "__eq__": None,
            "__str__": None,
        },
    },
    "lapses": {"lapse": "rule story", "counted": "rule story", "standing": "rule story day"},
    "orders": {
        "told_story": "rule names", "in_order": "rule names", "greatest_order": "rule names",
        "least_order": "rule names",
    },
    "bounds": {
        "latest": "rule", "latest_story": "rule", "latest_by": "rule most", "fewest": "rule day",
        "keepers": "rule day", "needless": "rule",
    },
    "papers": {"paper": "rule day", "paper_holds": "rule day value"},
}


def snapshot(thing):
    """All that can be seen of a thing, with the attributes of what it holds."""
    if isinstance(thing, (list, tuple)):
        return (type(thing), [snapshot(part) for part in thing])
    if isinstance(thing, (Kind, Rule, Story)):
        return (type(thing), str(thing), {name: snapshot(value) for name, value in vars(thing).items()})
    return (type(thing), thing)


def parameter_text(function):
    told = inspect.signature(function).parameters.values()
    return " ".join([str(parameter) for parameter in told if parameter.name != "self"])


class Interface(unittest.TestCase):
    def test_everything_is_defined_in_its_file(self):
        for module, listed in INTERFACE.items():
            found = importlib.import_module(f"termstill.{module}")
            for name, parts in listed.items():
                made = getattr(found, name)
                self.assertEqual(made.__module__, f"termstill.{module}")
                if isinstance(parts, str):
                    self.assertEqual(parameter_text(made), parts)
                    continue
                for method, parameters in parts.items():
                    self.assertIn(method, vars(made))
                    if parameters is not None:
                        self.assertEqual(parameter_text(getattr(made, method)), parameters)

    def test_the_package_itself_is_empty(self):
        package = importlib.import_module("termstill")
        with open(package.__file__, encoding="ascii") as file:
            source = file.read().strip()
        self.assertEqual(source, f'"""{package.__doc__}"""')


class Words(unittest.TestCase):
    """Point [1]."""

    def test_integers_and_numbers(self):
        for value in any_values():
            whole = type(value) is int
            self.assertIs(basics.is_integer(value), whole)
            self.assertIs(basics.is_number(value), whole and value >= 0)
            self.assertIs(basics.is_count(value), whole and value > 0)
            self.assertIs(basics.is_sequence(value), type(value) in (list, tuple))

    def test_names(self):
        letters = "abcdefghijklmnopqrstuvwxyz"
        for letter in letters:
            for many in range(1, 5):
                self.assertIs(basics.is_name(letter * many), True)
            self.assertIs(basics.is_name(letter * 5), False)
            self.assertIs(basics.is_name(letter.upper()), False)
        for sign in map(chr, range(0x250)):
            for name in (sign, "a" + sign, sign + "a", "ab" + sign + "c"):
                expected = sign in letters and name not in ("any", "none", "anew", "lift", "term")
                self.assertIs(basics.is_name(name), expected)
        for name in ("any", "none", "anew", "lift", "term", "", "still"):
            self.assertIs(basics.is_name(name), False)
        for name in ("anya", "ane", "lifts"[:3], "terms"[1:], "non", "ny", "cap", "rest"):
            self.assertIs(basics.is_name(name), True)

    def test_digits(self):
        for number in (0, 1, 9, 10, 105, BIG, 10**19 - 1):
            self.assertIs(basics.is_digits(str(number)), True)
        for sign in map(chr, range(0x700)):
            for word in (sign, "1" + sign, "1" + sign + "2"):
                self.assertIs(basics.is_digits(word), sign in list("0123456789"))
        for word in ("", "00", "01", "-1", "+1", "1.", str(10**19), "0" * 19, " 1", "1 "):
            self.assertIs(basics.is_digits(word), False)

    def test_no_described_function_raises_anything_else_for_any_value(self):
        rule, story = Rule(3, (), None, [Still("talk", 1)]), Story([(1, "talk", 1)])
        for one, two in itertools.product(any_values(), any_values()[::3]):
            for call in (
                lambda: Still(one, two, one), lambda: Anew(two, one), lambda: Lift("a", one, two, one),
                lambda: Rule(one, two),
                lambda: Rule(1, one, two), lambda: Rule(1, (), one, two), lambda: Rule(1, [one, two], None, [two, one]),
                lambda: Story([(one, "a", two), one]), lambda: Story((two, one)), lambda: story.further([one, two]),
                lambda: story.further(one), lambda: rule.kind(one), lambda: rule.only([one, two]), lambda: one == two,
                lambda: told_story(rule, [one, two]), lambda: in_order(rule, (one, two)),
                lambda: greatest_order(rule, [two, one]), lambda: least_order(rule, [one]),
                lambda: paper_holds(rule, 5, one), lambda: paper_holds(rule, 5, ((one, two, 1),)),
            ):
                try:
                    call()
                except (InvalidKind, InvalidRule, InvalidStory, NoKind):
                    pass


class Objects(unittest.TestCase):
    """Point [2]."""

    def test_nothing_changes(self):
        rule = Rule.read("term 10 rests 5 6 cap 30\nstill talk 3 1\nanew owe 5 any")
        story = Story.read("3 talk 2; 9 owe 1")
        names, more, kinds, rests = ["owe"], [(9, "a", 1)], [Still("a", 1)], [6, 5]
        ended, several, told = Rule(4, (), None, [Anew("one", 1), Still("talk", 3, 2)]), ["talk", "owe"], [((0,), 9, 1)]
        seen = [rule, story, names, more, kinds, rests, ended, several, told]
        ahead = snapshot(seen)
        calls = [
            lambda: str(rule), lambda: len(rule), lambda: rule.kind("owe"), lambda: rule.work(5),
            lambda: rule.only(names),
            lambda: rule + kinds[0], lambda: rule == story, lambda: rule == Rule.read(str(rule)), lambda: str(story),
            lambda: story.upto(9), lambda: story.further(more), lambda: story == rule,
            lambda: Rule(3, rests, None, kinds),
            lambda: Story(more), lambda: len(story),
            lambda: lapse(rule, story), lambda: counted(rule, story), lambda: standing(rule, story, 4),
            lambda: standing(rule, story, 99),
            lambda: told_story(rule, several), lambda: in_order(rule, several), lambda: greatest_order(rule, several),
            lambda: least_order(rule, several), lambda: latest(rule), lambda: latest(ended), lambda: latest_story(rule),
            lambda: latest_story(ended), lambda: latest_by(rule, 3), lambda: fewest(rule, 15), lambda: fewest(rule, 99),
            lambda: keepers(rule, 20), lambda: keepers(ended, None), lambda: needless(ended), lambda: paper(rule, 40),
            lambda: paper(ended, 9), lambda: paper(ended, 10), lambda: paper_holds(ended, 10, told),
            lambda: paper_holds(ended, 10, paper(ended, 10)),
        ]
        first = [snapshot(call()) for call in calls]
        for call in calls[::-1] + calls:
            call()
            self.assertEqual(snapshot(seen), ahead)
        self.assertEqual([snapshot(call()) for call in calls], first)

    def test_nothing_changes_if_an_error_is_raised(self):
        rule, story = Rule(3, (), None, [Still("talk", 1)]), Story([(1, "talk", 1)])
        for value in any_values():
            held = [value, rule, story]
            ahead = snapshot(held)
            for call in (rule.kind, story.further, Story, Rule, rule.__add__, rule.only, lambda bad: Rule(1, bad, bad)):
                try:
                    call(value)
                except (InvalidRule, InvalidStory, NoKind):
                    pass
                self.assertEqual(snapshot(held), ahead)

    def test_sequences_are_tuples(self):
        rule, story = Rule(3, [1, 0], None, [Still("talk", 1)]), Story([(1, "talk", 1)])
        for value in (rule.rests, rule.kinds, rule.names, rule.only(["talk"]).kinds, (rule + Anew("b", 1)).names):
            self.assertIs(type(value), tuple)
        for value in (story.occasions, story.upto(5).occasions, story.further([]).occasions, Story.read("").occasions):
            self.assertIs(type(value), tuple)
        for value in (
            counted(rule, story), standing(rule, story, 0), told_story(rule, ["talk"]).occasions,
            greatest_order(rule, ["talk"]),
            least_order(rule, []), latest_story(rule.only([])).occasions, keepers(rule, 1), keepers(rule, 1)[0],
            keepers(rule, None), needless(rule), paper(rule.only([]), 9), paper(rule.only([]), 9)[0],
            paper(rule.only([]), 9)[0][0],
        ):
            self.assertIs(type(value), tuple)

    def test_objects_are_not_iterable(self):
        for thing in objects() + [InvalidKind("name"), InvalidStory(0), NoKind("a")]:
            with self.assertRaises(TypeError):
                iter(thing)
            with self.assertRaises(TypeError):
                [*thing]
            with self.assertRaises(TypeError):
                first, *rest = thing

    def test_objects_of_unlike_classes_are_unequal_in_both_orders(self):
        for one, two in itertools.product(objects(), any_values()):
            family = next(family for family in (Kind, Rule, Story) if isinstance(one, family))
            equal = isinstance(two, family) and str(one) == str(two)
            self.assertIs(one == two, equal)
            self.assertIs(two == one, equal)
            self.assertIs(one != two, not equal)
            self.assertIs(two != one, not equal)

    def test_equal_objects_need_not_be_the_same(self):
        for thing in objects():
            self.assertTrue(thing == copy.deepcopy(thing))
            self.assertTrue(type(thing).read(str(thing)) == thing)


class Limits(unittest.TestCase):
    """Point [3]."""

    def test_greatest_rule(self):
        kinds = [Still("a", BIG, BIG), Anew("bb", BIG, BIG), Lift("ccc", BIG, BIG, BIG), Lift("dddd", BIG, BIG)]
        rule = Rule(BIG, (5, 4, 3, 2, 1, 0), BIG, kinds)
        self.assertTrue(Rule.read(str(rule)) == rule)
        self.assertEqual(rule.only(("dddd",)).kind("dddd").top, BIG)
        self.assertIn(rule.work(BIG) - BIG, range(7))
        self.assertEqual(rule.work(BIG) % 7, 6)

    def test_somewhat_beyond_the_limits(self):
        kinds = [Still(letter, BIG * 10**6, BIG * 10**6) for letter in "abcdefgh"]
        rule = Rule(BIG * 10**6, (), BIG * 10**6, kinds)
        self.assertEqual(len(rule + Anew("i", BIG * 100)), 9)
        self.assertEqual(len(Story([(at, "a", BIG * 100) for at in range(500)])), 500)
