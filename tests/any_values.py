"""Values of all sorts, for what the document describes for any value."""

import re

from termstill.desk import Desk
from termstill.errors import InvalidText, NoKind, Refused
from termstill.kinds import Anew, Lift, Still
from termstill.live import Live
from termstill.rules import Rule
from termstill.stories import Story
from termstill.unsure import Unsure

BAD_NAMES = ["", "any", "none", "anew", "lift", "term", "talks", "Talk", "ta k", "t4", "\u00e4", None, 1, ["talk"]]

def nested(inner, deep, make=list):
    for _ in range(deep):
        inner = make([inner])
    return inner


def integers():
    return [-(10**18), -8, -1, 0, 1, 2, 6, 7, 10**18, 10**19]


def bools():
    return [True, False]


def strings():
    return [
        "", " ", "\n", "a", "talk", "term", "any", "none", "anew", "lift", "still", "talks", "Talk", "tal1",
        "a b", "a\n", "a ", "\u00e4", "\u03b1", "\u0661", "0", "1", "-1", "None", "kinds", "talk 3 1", "x" * 1500,
    ]


def objects():
    talk = Still("talk", 3, 1)
    return [
        talk, Anew("owe", 5), Lift("plea", 2, 4, 1), Rule(1), Rule(10, [5, 6], 20, [talk]),
        Story(), Story([(0, "talk", 1)]),
    ]


def uncompared():
    """Objects that are equal to themselves alone."""
    live = Live(Rule(3))
    live.begin("talk")
    desk = Desk()
    desk.say("rule term 3 rests none cap none")
    return [
        Unsure([]), Unsure([(0, 1, "talk", 1)]), Live(Rule(1)), live, Desk(), desk, InvalidText(0), Refused(1),
        NoKind("a"),
    ]


def sequences():
    talk = Still("talk", 3, 1)
    return [
        [], (), [None], [True], [0], (0,), [7], ["talk"], ("talk",), [[]], [()], ((),), [talk], (talk, talk),
        ["talk", 3], ("talk", 3), (0, "talk", 1), [0, "talk", 1], [(0, "talk", 1)], [[0, "talk", 1]],
        [Story()], (Rule(1), 1), [Live(Rule(1))], (Desk(), [Unsure([])]), (0, 1, "talk", 1), [(0, 1, "talk", 1)],
        nested(1, 8), nested("a", 8, tuple), nested(talk, 8), [[0], ["a"], (None, True)],
    ]


def any_values():
    return [None] + bools() + integers() + strings() + objects() + uncompared() + sequences()


def but(wanted):
    """Any values without those that are wanted."""
    return [value for value in any_values() if not wanted(value)]


def is_integer(value):
    return type(value) is int


def is_count(value):
    return type(value) is int and value > 0


def is_number(value):
    return type(value) is int and value >= 0


def is_name(value):
    return type(value) is str and bool(re.fullmatch("[a-z]{1,4}", value)) and value not in BAD_NAMES


def is_listing(value):
    return type(value) in (list, tuple)
