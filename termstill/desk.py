"""A desk that does commands for a live claim."""

from termstill.basics import is_digits, is_name
from termstill.bounds import latest
from termstill.errors import InvalidCommand
from termstill.live import Live
from termstill.rules import Rule

ALONE = ("stands", "story", "latest", "undo")


class Desk:
    """A desk at which there is a live claim once a rule is told."""

    def __init__(self):
        self.live = None

    def say(self, command):
        """The result of a command."""
        if not isinstance(command, str) or not is_command(command):
            raise InvalidCommand()
        word, *rest = command.split(" ")
        if word == "rule":
            self.live = Live(Rule.read(" ".join(rest).replace(" ; ", "\n")))
            return str(self.live.last)
        if self.live is None:
            raise InvalidCommand()
        return done(self.live, word, rest)


def is_command(text):
    """Whether a text is a command, be there a live claim or not."""
    words = text.split(" ")
    if "\n" in text or "" in words:
        return False
    word, *rest = words
    if word == "rule":
        return len(rest) > 0
    if word == "begin":
        return len(rest) == 2 and is_name(rest[0]) and is_count_word(rest[1])
    if word == "wait":
        return len(rest) == 1 and is_count_word(rest[0])
    return word in ALONE and len(rest) == 0


def is_count_word(word):
    """Whether a word is the text of a number from 1 on."""
    return is_digits(word) and word != "0"


def done(live, word, rest):
    """The result of a command for the live claim, told by its first word and the rest."""
    if word == "begin":
        live.begin(rest[0], int(rest[1]))
        return str(live.last)
    if word == "wait":
        return "lives" if live.wait(int(rest[0])) else "lapsed"
    if word == "stands":
        return standing_text(live)
    if word == "story":
        return str(live.story) or "empty"
    if word == "latest":
        last = latest(live.rule)
        return "ever" if last is None else str(last)
    return "undone" if live.undo() else "nothing"


def standing_text(live):
    """How many days are left now, and for how many the term stands; or the day with which the claim lapsed."""
    if not live.alive:
        return f"lapsed {live.last}"
    left, going = live.standing()
    return f"{left} {going}"
