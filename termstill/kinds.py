"""The kinds of occasions: what occasions of a name do to a term."""

from termstill.basics import is_count, is_digits, is_name
from termstill.errors import InvalidKind, InvalidText

MANY_WORDS = {"still": 4, "anew": 4, "lift": 5}


class Kind:
    """A kind of occasions; it is made as a Still, an Anew or a Lift."""

    @classmethod
    def read(cls, text):
        """The kind with this text."""
        kind = told_kind(text)
        if kind is None:
            raise InvalidText(0)
        return kind

    def __eq__(self, other):
        return isinstance(other, Kind) and str(self) == str(other)

    def __str__(self):
        return " ".join(self.words())


class Still(Kind):
    """While such an occasion lasts, at most for `days`, the term stands still."""

    def __init__(self, name, days, times=None):
        check_arguments(name, [("days", days)], times)
        self.name = name
        self.days = days
        self.times = times

    def words(self):
        """The words of the text."""
        return ["still", self.name, str(self.days), times_word(self.times)]

    def happen(self, left, going, days):
        """The pair (left, going) behind such an occasion of so many days."""
        return (left, max(going, min(days, self.days)))


class Anew(Kind):
    """If fewer days than `left` are left, such an occasion makes it so many."""

    def __init__(self, name, left, times=None):
        check_arguments(name, [("left", left)], times)
        self.name = name
        self.left = left
        self.times = times

    def words(self):
        """The words of the text."""
        return ["anew", self.name, str(self.left), times_word(self.times)]

    def happen(self, left, going, days):
        """The pair (left, going) behind such an occasion, however long it lasts."""
        return (max(left, self.left), going)


class Lift(Kind):
    """Such an occasion adds `by` days to those that are left, up to `top`."""

    def __init__(self, name, by, top, times=None):
        check_arguments(name, [("by", by), ("top", top)], times)
        self.name = name
        self.by = by
        self.top = top
        self.times = times

    def words(self):
        """The words of the text."""
        return ["lift", self.name, str(self.by), str(self.top), times_word(self.times)]

    def happen(self, left, going, days):
        """The pair (left, going) behind such an occasion, however long it lasts."""
        return (max(left, min(left + self.by, self.top)), going)


def check_arguments(name, counts, times):
    """Raise InvalidKind for the first wrong argument; counts are pairs (word, value)."""
    if not is_name(name):
        raise InvalidKind("name")
    for word, value in counts:
        if not is_count(value):
            raise InvalidKind(word)
    if times is not None and not is_count(times):
        raise InvalidKind("times")


def times_word(times):
    """The last word of the text of a kind."""
    return "any" if times is None else str(times)


def told_kind(text):
    """The kind with this text, or None if it is the text of no kind."""
    words = text.split(" ")
    if len(words) != MANY_WORDS.get(words[0]) or not is_name(words[1]):
        return None
    digits = words[2:-1] if words[-1] == "any" else words[2:]
    if not all([is_digits(word) and word != "0" for word in digits]):
        return None
    # Without its last word, `any`, the argument `times` is left out.
    counts = [int(word) for word in digits]
    if words[0] == "still":
        return Still(words[1], *counts)
    if words[0] == "anew":
        return Anew(words[1], *counts)
    return Lift(words[1], *counts)
