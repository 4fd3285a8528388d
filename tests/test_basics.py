"""Points [1] to [4] and the interface: what holds for all modules."""

import copy
import importlib
import inspect
import itertools
import unittest

from tests.any_values import any_values, objects, uncompared
from termstill import basics
from termstill.bounds import fewest, keepers, latest, latest_by, latest_story, needless
from termstill.comparing import alike, never_sooner, parting, sooner
from termstill.desk import Desk
from termstill.errors import (
    InvalidCommand,
    InvalidKind,
    InvalidRule,
    InvalidStory,
    InvalidText,
    InvalidUnsure,
    NoKind,
    Refused,
    TermError,
)
from termstill.kinds import Anew, Kind, Lift, Still
from termstill.lapses import counted, lapse, standing
from termstill.live import Live
from termstill.orders import greatest_order, in_order, least_order, told_story
from termstill.papers import paper, paper_holds
from termstill.rules import Rule
from termstill.stories import Story
from termstill.unsure import Unsure, deciding, fillings, lapses, settling, surely

BIG = 10**18
# What the interface lists: files, their functions with their parameters, and their classes with their methods.
INTERFACE = {
    "errors": {
        "TermError": {}, "InvalidKind": {"__init__": "word"}, "InvalidRule": {"__init__": "word"},
        "InvalidStory": {"__init__": "at"}, "InvalidUnsure": {"__init__": "at"}, "InvalidText": {"__init__": "at"},
        "InvalidCommand": {"__init__": ""}, "Refused": {"__init__": "at"}, "NoKind": {"__init__": "name"},
    },
    "kinds": {
        "Kind": {"read": "text", "__eq__": None, "__str__": None},
        "Still": {"__init__": "name days times=None"}, "Anew": {"__init__": "name left times=None"},
        "Lift": {"__init__": "name by top times=None"},
    },
    "rules": {
        "Rule": {
            "__init__": "length rests=() cap=None kinds=()", "kind": "name", "work": "day", "only": "names",
            "read": "text",
            "__len__": None, "__add__": None, "__eq__": None, "__str__": None,
        },
    },
    "stories": {
        "Story": {
            "__init__": "occasions=()", "upto": "day", "further": "occasions", "read": "text", "__len__": None,
            "__eq__": None,
            "__str__": None,
        },
    },
    "lapses": {"lapse": "rule story", "counted": "rule story", "standing": "rule story day"},
    "orders": {
        "told_story": "rule names", "in_order": "rule names", "greatest_order": "rule names",
        "least_order": "rule names",
    },
    "bounds": {
        "latest": "rule", "latest_story": "rule", "latest_by": "rule most", "fewest": "rule day",
        "keepers": "rule day", "needless": "rule",
    },
    "papers": {"paper": "rule day", "paper_holds": "rule day value"},
    "comparing": {"never_sooner": "p q", "sooner": "p q", "alike": "p q", "parting": "p q"},
    "unsure": {
        "Unsure": {"__init__": "occasions"}, "fillings": "unsure", "lapses": "rule unsure",
        "surely": "rule unsure day", "deciding": "rule unsure", "settling": "rule unsure at day",
    },
    "live": {
        "Live": {
            "__init__": "rule", "rule": None, "day": None, "story": None, "last": None, "alive": None,
            "begin": "name days=1", "wait": "many=1", "several": "occasions", "undo": "", "within": "work",
            "__len__": None,
        },
    },
    "desk": {"Desk": {"__init__": "", "say": "command"}},
}
PROPERTIES = ("rule", "day", "story", "last", "alive")
ERRORS = (InvalidCommand, InvalidKind, InvalidRule, InvalidStory, InvalidText, InvalidUnsure, NoKind, Refused)


def snapshot(thing):
    """All that can be seen of a thing, with the attributes of what it holds."""
    if isinstance(thing, (list, tuple)):
        return (type(thing), [snapshot(part) for part in thing])
    if isinstance(thing, (Kind, Rule, Story)):
        return (type(thing), str(thing), {name: snapshot(value) for name, value in vars(thing).items()})
    if isinstance(thing, (Unsure, Desk, *ERRORS)):
        return (type(thing), {name: snapshot(value) for name, value in vars(thing).items()})
    if isinstance(thing, Live):
        return (Live, len(thing), {name: snapshot(getattr(thing, name)) for name in PROPERTIES})
    return (type(thing), thing)


def parameter_text(function):
    told = inspect.signature(function).parameters.values()
    return " ".join([str(parameter) for parameter in told if parameter.name != "self"])


class Interface(unittest.TestCase):
    def test_everything_is_defined_in_its_file(self):
        for module, listed in INTERFACE.items():
            found = importlib.import_module(f"termstill.{module}")
            for name, parts in listed.items():
                made = getattr(found, name)
                self.assertEqual(made.__module__, f"termstill.{module}")
                if isinstance(parts, str):
                    self.assertEqual(parameter_text(made), parts)
                    continue
                for method, parameters in parts.items():
                    self.assertIn(method, vars(made))
                    if parameters is not None:
                        self.assertEqual(parameter_text(getattr(made, method)), parameters)

    def test_parts_of_live_claims_are_properties(self):
        for name in PROPERTIES:
            self.assertIsInstance(vars(Live)[name], property)

    def test_attributes_are_set_when_an_object_is_created(self):
        talk = Still("talk", 3)
        for thing, names in (
            (talk, "name days times"), (Anew("a", 1), "name left times"), (Lift("a", 1, 2), "name by top times"),
            (Rule(1), "length rests cap kinds names"), (Story(), "occasions"), (Unsure([]), "occasions"),
            (Desk(), "live"),
            (InvalidKind(1), "word"), (InvalidRule(1), "word"), (InvalidStory(1), "at"), (InvalidUnsure(1), "at"),
            (InvalidText(1), "at"), (Refused(1), "at"), (NoKind(1), "name"),
        ):
            self.assertEqual(sorted(vars(thing)), sorted(names.split()))

    def test_the_package_itself_is_empty(self):
        package = importlib.import_module("termstill")
        with open(package.__file__, encoding="ascii") as file:
            source = file.read().strip()
        self.assertEqual(source, f'"""{package.__doc__}"""')


class Words(unittest.TestCase):
    """Point [1]."""

    def test_integers_and_numbers(self):
        for value in any_values():
            whole = type(value) is int
            self.assertIs(basics.is_integer(value), whole)
            self.assertIs(basics.is_number(value), whole and value >= 0)
            self.assertIs(basics.is_count(value), whole and value > 0)
            self.assertIs(basics.is_sequence(value), type(value) in (list, tuple))

    def test_names(self):
        letters = "abcdefghijklmnopqrstuvwxyz"
        for letter in letters:
            for many in range(1, 5):
                self.assertIs(basics.is_name(letter * many), True)
            self.assertIs(basics.is_name(letter * 5), False)
            self.assertIs(basics.is_name(letter.upper()), False)
        for sign in map(chr, range(0x250)):
            for name in (sign, "a" + sign, sign + "a", "ab" + sign + "c"):
                expected = sign in letters and name not in ("any", "none", "anew", "lift", "term")
                self.assertIs(basics.is_name(name), expected)
        for name in ("any", "none", "anew", "lift", "term", "", "still"):
            self.assertIs(basics.is_name(name), False)
        for name in ("anya", "ane", "lifts"[:3], "terms"[1:], "non", "ny", "cap", "rest"):
            self.assertIs(basics.is_name(name), True)

    def test_digits(self):
        for number in (0, 1, 9, 10, 105, BIG, 10**19 - 1):
            self.assertIs(basics.is_digits(str(number)), True)
        for sign in map(chr, range(0x700)):
            for word in (sign, "1" + sign, "1" + sign + "2"):
                self.assertIs(basics.is_digits(word), sign in list("0123456789"))
        for word in ("", "00", "01", "-1", "+1", "1.", str(10**19), "0" * 19, " 1", "1 "):
            self.assertIs(basics.is_digits(word), False)

    def test_no_described_function_raises_anything_else_for_any_value(self):
        rule, story = Rule(3, (), None, [Still("talk", 1)]), Story([(1, "talk", 1)])
        for one, two in itertools.product(any_values(), any_values()[::3]):
            for call in (
                lambda: Still(one, two, one), lambda: Anew(two, one), lambda: Lift("a", one, two, one),
                lambda: Rule(one, two),
                lambda: Rule(1, one, two), lambda: Rule(1, (), one, two), lambda: Rule(1, [one, two], None, [two, one]),
                lambda: Story([(one, "a", two), one]), lambda: Story((two, one)), lambda: story.further([one, two]),
                lambda: story.further(one), lambda: rule.kind(one), lambda: rule.only([one, two]), lambda: one == two,
                lambda: told_story(rule, [one, two]), lambda: in_order(rule, (one, two)),
                lambda: greatest_order(rule, [two, one]), lambda: least_order(rule, [one]),
                lambda: paper_holds(rule, 5, one), lambda: paper_holds(rule, 5, ((one, two, 1),)),
                lambda: Unsure(one), lambda: Unsure([(0, one, "a", two), two]), lambda: Unsure([(one, two, one, 1)]),
                lambda: Live(rule).begin(one, two), lambda: Live(rule).begin("talk", one), lambda: Desk().say(one),
                lambda: Live(rule).several(one), lambda: Live(rule).several([(0, one, two), one]),
            ):
                try:
                    call()
                except (InvalidCommand, InvalidKind, InvalidRule, InvalidStory, InvalidUnsure, NoKind, Refused):
                    pass


class Objects(unittest.TestCase):
    """Point [2]."""

    def test_nothing_changes(self):
        rule = Rule.read("term 10 rests 5 6 cap 30\nstill talk 3 1\nanew owe 5 any")
        story = Story.read("3 talk 2; 9 owe 1")
        names, more, kinds, rests = ["owe"], [(9, "a", 1)], [Still("a", 1)], [6, 5]
        ended, several, told = Rule(4, (), None, [Anew("one", 1), Still("talk", 3, 2)]), ["talk", "owe"], [((0,), 9, 1)]
        p, q = Rule(3, [6], None, [Still("talk", 2, 1)]), Rule(3, [5], 9, [Anew("talk", 4), Still("owe", 1)])
        some, rows, live, desk = Unsure([(7, 9, "talk", 3), (8, 9, "owe", 1)]), [(7, 9, "talk", 3)], Live(rule), Desk()
        live.several([(2, "talk", 1), (3, "owe", 1)])
        desk.say("rule term 3 rests none cap none")
        seen = [rule, story, names, more, kinds, rests, ended, several, told, p, q, some, rows, live, desk]
        ahead = snapshot(seen)
        calls = [
            lambda: str(rule), lambda: len(rule), lambda: rule.kind("owe"), lambda: rule.work(5),
            lambda: rule.only(names),
            lambda: rule + kinds[0], lambda: rule == story, lambda: rule == Rule.read(str(rule)), lambda: str(story),
            lambda: story.upto(9), lambda: story.further(more), lambda: story == rule,
            lambda: Rule(3, rests, None, kinds),
            lambda: Story(more), lambda: len(story),
            lambda: lapse(rule, story), lambda: counted(rule, story), lambda: standing(rule, story, 4),
            lambda: standing(rule, story, 99),
            lambda: told_story(rule, several), lambda: in_order(rule, several), lambda: greatest_order(rule, several),
            lambda: least_order(rule, several), lambda: latest(rule), lambda: latest(ended), lambda: latest_story(rule),
            lambda: latest_story(ended), lambda: latest_by(rule, 3), lambda: fewest(rule, 15), lambda: fewest(rule, 99),
            lambda: keepers(rule, 20), lambda: keepers(ended, None), lambda: needless(ended), lambda: paper(rule, 40),
            lambda: paper(ended, 9), lambda: paper(ended, 10), lambda: paper_holds(ended, 10, told),
            lambda: paper_holds(ended, 10, paper(ended, 10)), lambda: never_sooner(p, q), lambda: never_sooner(q, p),
            lambda: sooner(p, q), lambda: sooner(q, p), lambda: alike(p, q), lambda: alike(p, p), lambda: parting(p, q),
            lambda: parting(q, q), lambda: Unsure(rows), lambda: fillings(some), lambda: lapses(rule, some),
            lambda: surely(rule, some, 11), lambda: deciding(rule, some), lambda: settling(rule, some, 0, 12),
            lambda: Live(rule), lambda: Live(rule).several(more), lambda: live.day, lambda: live.story,
            lambda: live.last, lambda: live.alive, lambda: live.rule, lambda: len(live),
            lambda: live.within(lambda inner: (inner.undo(), inner.wait(4), inner.begin("talk"), snapshot(inner))),
            lambda: Desk(), lambda: desk.live, lambda: desk.say("stands"), lambda: desk.say("story"),
            lambda: desk.say("latest"),
        ]
        first = [snapshot(call()) for call in calls]
        for call in calls[::-1] + calls:
            call()
            self.assertEqual(snapshot(seen), ahead)
        self.assertEqual([snapshot(call()) for call in calls], first)

    def test_nothing_changes_if_an_error_is_raised(self):
        rule, story = Rule(3, (), None, [Still("talk", 1)]), Story([(1, "talk", 1)])
        for value in any_values():
            held = [value, rule, story]
            ahead = snapshot(held)
            for call in (
                rule.kind, story.further, Story, Rule, rule.__add__, rule.only, lambda bad: Rule(1, bad, bad), Unsure,
                lambda bad: Live(rule).several(bad), lambda bad: Live(rule).begin(bad), lambda bad: Desk().say(bad),
            ):
                try:
                    call(value)
                except (InvalidCommand, InvalidRule, InvalidStory, InvalidUnsure, NoKind, Refused):
                    pass
                self.assertEqual(snapshot(held), ahead)

    def test_sequences_are_tuples(self):
        rule, story = Rule(3, [1, 0], None, [Still("talk", 1)]), Story([(1, "talk", 1)])
        for value in (rule.rests, rule.kinds, rule.names, rule.only(["talk"]).kinds, (rule + Anew("b", 1)).names):
            self.assertIs(type(value), tuple)
        for value in (story.occasions, story.upto(5).occasions, story.further([]).occasions, Story.read("").occasions):
            self.assertIs(type(value), tuple)
        for value in (
            counted(rule, story), standing(rule, story, 0), told_story(rule, ["talk"]).occasions,
            greatest_order(rule, ["talk"]),
            least_order(rule, []), latest_story(rule.only([])).occasions, keepers(rule, 1), keepers(rule, 1)[0],
            keepers(rule, None), needless(rule), paper(rule.only([]), 9), paper(rule.only([]), 9)[0],
            paper(rule.only([]), 9)[0][0], sooner(rule, Rule(4)).occasions, parting(Rule(4), rule).occasions,
            Unsure([]).occasions, Unsure([(1, 2, "a", 1)]).occasions, fillings(Unsure([])),
            fillings(Unsure([(1, 2, "a", 1)]))[1].occasions, lapses(rule, Unsure([])), deciding(rule, Unsure([])),
            settling(rule, Unsure([(1, 2, "a", 1)]), 0, 1), Live(rule).several([]), Live(rule).story.occasions,
            Live(rule).several([(0, "talk", 1)]),
        ):
            self.assertIs(type(value), tuple)

    def test_objects_are_not_iterable(self):
        for thing in objects() + uncompared() + [InvalidKind("name"), InvalidStory(0), NoKind("a")]:
            with self.assertRaises(TypeError):
                iter(thing)
            with self.assertRaises(TypeError):
                [*thing]
            with self.assertRaises(TypeError):
                first, *rest = thing
            with self.assertRaises(TypeError):
                "talk" in thing

    def test_in_place_operators_return_new_objects(self):
        rule = Rule(3)
        other = rule
        other += Still("talk", 1)
        self.assertEqual((len(rule), len(other)), (0, 1))

    def test_other_objects_are_equal_to_themselves_alone(self):
        for one, two in itertools.product(uncompared(), any_values()):
            self.assertIs(one == two, False)
            self.assertIs(one == one, True)

    def test_lists_that_are_changed_later_have_no_effect(self):
        rows, names, kinds, rests = [(1, "talk", 1)], ["talk"], [Still("talk", 1)], [5]
        unsure_rows = [(1, 2, "talk", 1)]
        rule, story, some, live = Rule(3, rests, None, kinds), Story(rows), Unsure(unsure_rows), Live(Rule(3))
        live.several(rows)
        told = [rule, story, some, live, Story().further(rows), rule.only(names), told_story(rule, names)]
        ahead = snapshot(told)
        for held in (rows, names, kinds, rests, unsure_rows):
            held.append(None)
            held[0] = "x"
        self.assertEqual(snapshot(told), ahead)

    def test_objects_of_unlike_classes_are_unequal_in_both_orders(self):
        for one, two in itertools.product(objects(), any_values()):
            family = next(family for family in (Kind, Rule, Story) if isinstance(one, family))
            equal = isinstance(two, family) and str(one) == str(two)
            self.assertIs(one == two, equal)
            self.assertIs(two == one, equal)
            self.assertIs(one != two, not equal)
            self.assertIs(two != one, not equal)

    def test_equal_objects_need_not_be_the_same(self):
        for thing in objects():
            self.assertTrue(thing == copy.deepcopy(thing))
            self.assertTrue(type(thing).read(str(thing)) == thing)


class Passing(unittest.TestCase):
    """Point [2]: arguments by place and by name."""

    def assert_passed(self, call, **told):
        """All ways to pass these arguments, told in the order of the interface, return the same."""
        expected = snapshot(call(*told.values()))
        for many in range(len(told)):
            placed, named = list(told.values())[:many], list(told)[many:]
            for order in itertools.permutations(named):
                self.assertEqual(snapshot(call(*placed, **{name: told[name] for name in order})), expected)

    def test_functions(self):
        rule = Rule.read("term 10 rests 5 6 cap none\nstill talk 3 1\nanew owe 5 1\nlift plea 2 4 1")
        story, names, some = Story.read("9 talk 3; 14 owe 1"), ["owe", "talk"], Unsure([(7, 9, "talk", 3)])
        self.assert_passed(lapse, rule=rule, story=story)
        self.assert_passed(counted, rule=rule, story=story)
        self.assert_passed(standing, rule=rule, story=story, day=10)
        for call in (told_story, in_order, greatest_order, least_order):
            self.assert_passed(call, rule=rule, names=names)
        for call in (latest, latest_story, needless):
            self.assert_passed(call, rule=rule)
        self.assert_passed(latest_by, rule=rule, most=2)
        for call in (fewest, keepers, paper):
            self.assert_passed(call, rule=rule, day=21)
        self.assert_passed(paper_holds, rule=rule, day=21, value=paper(rule, 21))
        for call in (never_sooner, sooner, alike, parting):
            self.assert_passed(call, p=Rule(3), q=Rule(4))
        self.assert_passed(fillings, unsure=some)
        self.assert_passed(lapses, rule=rule, unsure=some)
        self.assert_passed(surely, rule=rule, unsure=some, day=12)
        self.assert_passed(deciding, rule=rule, unsure=some)
        self.assert_passed(settling, rule=rule, unsure=some, at=0, day=12)

    def test_classes_and_methods(self):
        self.assert_passed(Still, name="a", days=2, times=3)
        self.assert_passed(Anew, name="a", left=2, times=3)
        self.assert_passed(Lift, name="a", by=2, top=5, times=3)
        self.assert_passed(Rule, length=3, rests=[5], cap=9, kinds=[Still("a", 2)])
        self.assert_passed(Story, occasions=[(1, "a", 2)])
        self.assert_passed(Unsure, occasions=[(1, 3, "a", 2)])
        self.assert_passed(Live, rule=Rule(3))
        for made, text in ((Kind, "still a 2 3"), (Rule, "term 3 rests none cap 2"), (Story, "1 a 2")):
            self.assert_passed(made.read, text=text)
        rule, story = Rule(3, [5], 9, [Still("a", 2)]), Story([(1, "a", 2)])
        self.assert_passed(rule.kind, name="a")
        self.assert_passed(rule.work, day=5)
        self.assert_passed(rule.only, names=["a"])
        self.assert_passed(story.upto, day=2)
        self.assert_passed(story.further, occasions=[(2, "b", 1)])

    def test_methods_that_change(self):
        def done(name):
            """What a fresh live claim or desk returns, and what becomes of it."""

            def call(*told, **more):
                thing = Desk() if name == "say" else Live(Rule(3, (), None, [Still("a", 2)]))
                return (getattr(thing, name)(*told, **more), snapshot(thing))

            return call

        self.assert_passed(done("begin"), name="a", days=2)
        self.assert_passed(done("wait"), many=2)
        self.assert_passed(done("several"), occasions=[(1, "a", 2)])
        self.assert_passed(done("within"), work=len)
        self.assert_passed(done("say"), command="rule term 3 rests none cap 2")


class Errors(unittest.TestCase):
    """Point [4]: each error is raised as what it is, and as no other one."""

    def test_each_by_what_raises_it(self):
        rule = Rule(3, (), None, [Still("talk", 1)])
        for call, made, told in (
            (lambda: Still("any", 1), InvalidKind, {"word": "name"}),
            (lambda: Rule(0), InvalidRule, {"word": "length"}),
            (lambda: Story([None]), InvalidStory, {"at": 0}), (lambda: Unsure([None]), InvalidUnsure, {"at": 0}),
            (lambda: Rule.read(""), InvalidText, {"at": 0}), (lambda: Desk().say("stands"), InvalidCommand, {}),
            (lambda: Live(rule).begin(""), Refused, {"at": 0}),
            (lambda: Live(rule).several([None]), Refused, {"at": 0}),
            (lambda: rule.kind("x"), NoKind, {"name": "x"}), (lambda: told_story(rule, ["x"]), NoKind, {"name": "x"}),
        ):
            with self.assertRaises(made) as caught:
                call()
            for other in (*ERRORS, ValueError, KeyError, TermError):
                self.assertIs(isinstance(caught.exception, other), issubclass(made, other))
            self.assertEqual([other for other in ERRORS if isinstance(caught.exception, other)], [made])
            self.assertEqual(vars(caught.exception), told)


class Limits(unittest.TestCase):
    """Point [3]."""

    def test_greatest_rule(self):
        kinds = [Still("a", BIG, BIG), Anew("bb", BIG, BIG), Lift("ccc", BIG, BIG, BIG), Lift("dddd", BIG, BIG)]
        rule = Rule(BIG, (5, 4, 3, 2, 1, 0), BIG, kinds)
        self.assertTrue(Rule.read(str(rule)) == rule)
        self.assertEqual(rule.only(("dddd",)).kind("dddd").top, BIG)
        self.assertIn(rule.work(BIG) - BIG, range(7))
        self.assertEqual(rule.work(BIG) % 7, 6)

    def test_somewhat_beyond_the_limits(self):
        kinds = [Still(letter, BIG * 10**6, BIG * 10**6) for letter in "abcdefgh"]
        rule = Rule(BIG * 10**6, (), BIG * 10**6, kinds)
        self.assertEqual(len(rule + Anew("i", BIG * 100)), 9)
        self.assertEqual(len(Story([(at, "a", BIG * 100) for at in range(500)])), 500)
