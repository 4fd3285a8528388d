"""Rules: the length of a term, its rest days, its cap and its kinds of occasions."""

from termstill.basics import is_count, is_digits, is_integer, is_sequence
from termstill.errors import InvalidRule, InvalidText, NoKind
from termstill.kinds import Kind, told_kind

WEEK = 7
LEAST_WORDS = 6


class Rule:
    """A rule for a claim; it never changes."""

    def __init__(self, length, rests=(), cap=None, kinds=()):
        if not is_count(length):
            raise InvalidRule("length")
        if not are_rests(rests):
            raise InvalidRule("rests")
        if cap is not None and not is_count(cap):
            raise InvalidRule("cap")
        if not are_kinds(kinds):
            raise InvalidRule("kinds")
        self.length = length
        self.rests = tuple(sorted(rests))
        self.cap = cap
        self.kinds = tuple(kinds)
        self.names = tuple([kind.name for kind in kinds])

    @classmethod
    def read(cls, text):
        """The rule with this text, its rests in any order."""
        head, *lines = text.split("\n")
        words = head.split(" ")
        if not are_head(words):
            raise InvalidText(0)
        kinds = [told_kind(line) for line in lines]
        for at, kind in enumerate(kinds, 1):
            if kind is None:
                raise InvalidText(at)
        rests = [] if words[3] == "none" else [int(word) for word in words[3:-2]]
        cap = None if words[-1] == "none" else int(words[-1])
        return cls(int(words[1]), rests, cap, kinds)

    def kind(self, name):
        """The kind with this name."""
        for kind in self.kinds:
            if kind.name == name:
                return kind
        raise NoKind(name)

    def work(self, day):
        """The first working day from this day on."""
        while day % WEEK in self.rests:
            day += 1
        return day

    def only(self, names):
        """The rule with just the kinds of these names."""
        # The letters of a string are not taken for names.
        if not is_sequence(names):
            raise NoKind(names)
        for name in names:
            if name not in self.names:
                raise NoKind(name)
        kept = [kind for kind in self.kinds if kind.name in names]
        return Rule(self.length, self.rests, self.cap, kept)

    def __len__(self):
        return len(self.kinds)

    def __add__(self, other):
        if not isinstance(other, Kind):
            return NotImplemented
        return Rule(self.length, self.rests, self.cap, [*self.kinds, other])

    def __eq__(self, other):
        return isinstance(other, Rule) and str(self) == str(other)

    def __str__(self):
        return "\n".join([head_text(self), *[str(kind) for kind in self.kinds]])


def are_rests(value):
    """Whether a value is a sequence of rests, by which each week has a working day."""
    if not is_sequence(value) or not all([is_integer(rest) and 0 <= rest < WEEK for rest in value]):
        return False
    return len(set(value)) == len(value) < WEEK


def are_kinds(value):
    """Whether a value is a sequence of kinds with unlike names."""
    if not is_sequence(value) or not all([isinstance(kind, Kind) for kind in value]):
        return False
    return len(set([kind.name for kind in value])) == len(value)


def head_text(rule):
    """The first line of the text of a rule."""
    rests = " ".join([str(rest) for rest in rule.rests]) if rule.rests else "none"
    cap = "none" if rule.cap is None else str(rule.cap)
    return f"term {rule.length} rests {rests} cap {cap}"


def are_head(words):
    """Whether words are those of a first line, whatever its numbers are."""
    if len(words) < LEAST_WORDS or [words[0], words[2], words[-2]] != ["term", "rests", "cap"]:
        return False
    if not is_digits(words[1]) or not (words[-1] == "none" or is_digits(words[-1])):
        return False
    rests = words[3:-2]
    return rests == ["none"] or all([is_digits(word) and len(word) == 1 for word in rests])
