"""Point [5]: the kinds of occasions."""

import itertools
import unittest

from tests.any_values import any_values, but, is_count, objects
from termstill.errors import InvalidKind, InvalidText
from termstill.kinds import Anew, Kind, Lift, Still

BIG = 10**18
WRONG_NAMES = [
    "", "any", "none", "anew", "lift", "term", "still", "talks", "abcde", "Talk", "tALK", "T", "a1", "1", "a_", "a-",
    "a b", " a", "a ", "a\n", "\n", "\u00e4", "stra\u00dfe", "\u00df", "\u03b1", "\u0430", "\uff41",
    None, True, False, 0, 1, [], (), ["a"], ("a",), ["t", "a"],
]
RIGHT_NAMES = ["a", "z", "az", "abc", "talk", "owe", "non", "no", "anyx", "an", "lif", "ter", "cap", "rest", "zzzz"]
WRONG_NUMBERS = [
    "0", "00", "03", "+3", "-3", "3.", "3_0", "1e3", "0x3", "x", "none", "Any", "1" * 20, "\u0663", "\u00b2",
]
# Each class with good arguments, and with the names of its numbers.
MAKERS = [
    (Still, {"name": "talk", "days": 3, "times": 1}),
    (Anew, {"name": "owe", "left": 5, "times": 2}),
    (Lift, {"name": "plea", "by": 2, "top": 4, "times": 3}),
]


def word_of(made, arguments):
    """The word of the InvalidKind that is raised, or None."""
    try:
        made(**arguments)
    except InvalidKind as error:
        return error.word
    return None


class Making(unittest.TestCase):
    def test_attributes_and_texts(self):
        for kind, attributes, text in [
            (Still("talk", 3, 1), ("talk", 3, 1), "still talk 3 1"),
            (Still("talk", 3), ("talk", 3, None), "still talk 3 any"),
            (Still("a", 1, None), ("a", 1, None), "still a 1 any"),
            (Still("a", BIG, BIG), ("a", BIG, BIG), f"still a {BIG} {BIG}"),
            (Still(times=2, days=1, name="zz"), ("zz", 1, 2), "still zz 1 2"),
        ]:
            self.assertEqual((kind.name, kind.days, kind.times), attributes)
            self.assertEqual(str(kind), text)
        for kind, attributes, text in [
            (Anew("owe", 5, 1), ("owe", 5, 1), "anew owe 5 1"),
            (Anew("owe", 5), ("owe", 5, None), "anew owe 5 any"),
            (Anew("b", BIG, BIG), ("b", BIG, BIG), f"anew b {BIG} {BIG}"),
            (Anew(left=1, name="owe"), ("owe", 1, None), "anew owe 1 any"),
        ]:
            self.assertEqual((kind.name, kind.left, kind.times), attributes)
            self.assertEqual(str(kind), text)
        for kind, attributes, text in [
            (Lift("plea", 2, 4, 1), ("plea", 2, 4, 1), "lift plea 2 4 1"),
            (Lift("plea", 4, 2), ("plea", 4, 2, None), "lift plea 4 2 any"),
            (Lift("c", BIG, BIG, BIG), ("c", BIG, BIG, BIG), f"lift c {BIG} {BIG} {BIG}"),
            (Lift(top=9, times=7, by=1, name="c"), ("c", 1, 9, 7), "lift c 1 9 7"),
        ]:
            self.assertEqual((kind.name, kind.by, kind.top, kind.times), attributes)
            self.assertEqual(str(kind), text)

    def test_all_are_kinds(self):
        for made, arguments in MAKERS:
            self.assertIsInstance(made(**arguments), Kind)
            self.assertEqual(made.__bases__, (Kind,))

    def test_names(self):
        for name in RIGHT_NAMES:
            for made, arguments in MAKERS:
                self.assertIs(made(**{**arguments, "name": name}).name, name)
        for name in WRONG_NAMES:
            for made, arguments in MAKERS:
                self.assertEqual(word_of(made, {**arguments, "name": name}), "name", name)

    def test_any_value_at_each_place(self):
        for made, arguments in MAKERS:
            for word in arguments:
                for value in any_values():
                    if word == "name":
                        right = isinstance(value, str) and value in ("a", "talk")
                    else:
                        right = is_count(value) or word == "times" and value is None
                    self.assertEqual(word_of(made, {**arguments, word: value}), None if right else word)

    def test_the_first_wrong_argument_is_told(self):
        for made, arguments in MAKERS:
            for many in range(1, len(arguments) + 1):
                for words in itertools.combinations(arguments, many):
                    for wrong in (0, True, [], -1):
                        changed = {**arguments, **{word: wrong for word in words}}
                        self.assertEqual(word_of(made, changed), words[0])

    def test_positions(self):
        with self.assertRaises(InvalidKind) as caught:
            Lift("plea", 2, 0, 0)
        self.assertEqual(caught.exception.word, "top")
        with self.assertRaises(InvalidKind) as caught:
            Lift("plea", False, 0, 0)
        self.assertEqual(caught.exception.word, "by")


class Reading(unittest.TestCase):
    def test_every_text_is_read(self):
        for times in (None, 1, 2, 19, BIG):
            for number in (1, 3, 10, 105, BIG, 10**19 - 1):
                for kind in (Still("talk", number, times), Anew("owe", number, times), Lift("plea", number, 7, times)):
                    told = Kind.read(str(kind))
                    self.assertIs(type(told), type(kind))
                    self.assertEqual(vars(told), vars(kind))
                    self.assertEqual(str(Kind.read(text=str(kind))), str(kind))
        self.assertEqual(Kind.read("lift plea 2 4 any").top, 4)
        self.assertIsNone(Kind.read("lift plea 2 4 any").times)
        self.assertEqual(Kind.read("lift plea 2 4 3").times, 3)

    def test_other_texts(self):
        good = ["still talk 3 1", "anew owe 5 any", "lift plea 2 4 1"]
        wrong = ["", " ", "\n", "still", "any", "still talk", "still talk 3", "anew owe 5", "lift plea 2 4"]
        wrong += ["still talk any", "still talk any 1", "anew owe any any", "lift plea any 4 1", "lift plea 2 any any"]
        wrong += ["stil talk 3 1", "Still talk 3 1", "term talk 3 1", "kind talk 3 1", "stills talk 3 1", "4 talk 3 1"]
        for text in good:
            wrong += [text + " 1", text + " any", text + " ", " " + text, text + "\n", "\n" + text]
            wrong += [text.replace(" ", "\n"), text.replace(" ", "  ", 1), text.replace(" ", "\t", 1)]
            wrong += [text[::-1].replace(" ", "  ", 1)[::-1]]
            words = text.split(" ")
            for at in range(len(words)):
                wrong.append(" ".join(words[:at] + words[at + 1 :]))
                wrong.append(" ".join(words[:at] + [""] + words[at + 1 :]))
            for at in range(2, len(words)):
                for word in WRONG_NUMBERS:
                    wrong.append(" ".join(words[:at] + [word] + words[at + 1 :]))
            for name in WRONG_NAMES:
                if isinstance(name, str):
                    wrong.append(" ".join(words[:1] + [name] + words[2:]))
        wrong += ["still talk 3 1 1", "anew owe 5 5 5", "lift talk 3 1", "still plea 2 4 1"]
        wrong += ["x" * 1500, "still talk " + "1" * 1400 + " 1"]
        for text in wrong:
            with self.assertRaises(InvalidText, msg=repr(text)) as caught:
                Kind.read(text)
            self.assertEqual(caught.exception.at, 0)
            self.assertIs(type(caught.exception.at), int)


class Equality(unittest.TestCase):
    def test_kinds_are_equal_by_text(self):
        texts = ["still a 3 1", "still a 3 any", "still b 3 1", "still a 1 3", "anew a 3 1", "anew a 3 any"]
        texts += ["lift a 3 1 1", "lift a 1 3 1"]
        for one, two in itertools.product(texts, texts):
            self.assertIs(Kind.read(one) == Kind.read(two), one == two)
            self.assertIs(Kind.read(one) != Kind.read(two), one != two)
        self.assertTrue(Still("a", 3) == Still(name="a", days=3, times=None))

    def test_kinds_are_equal_to_nothing_else(self):
        for kind in (Still("talk", 3, 1), Anew("owe", 5), Lift("plea", 2, 4, 1)):
            for value in but(lambda value: isinstance(value, Kind)) + [str(kind), [kind], (kind,), 1.5, {}, object()]:
                self.assertIs(kind == value, False)
                self.assertIs(value == kind, False)
                self.assertIs(kind != value, True)
                self.assertIs(value != kind, True)

    def test_kinds_stay_as_they_are(self):
        for kind in objects()[:3]:
            ahead = (vars(kind).copy(), str(kind))
            str(kind), kind == 1, kind == Kind.read(str(kind))
            self.assertEqual((vars(kind), str(kind)), ahead)
            with self.assertRaises(TypeError):
                iter(kind)
            with self.assertRaises(TypeError):
                list(kind)
            with self.assertRaises(TypeError):
                1 in kind
