"""Stories: rows of occasions, each of which begins on a day."""

from termstill.basics import is_count, is_digits, is_name, is_number, is_sequence
from termstill.errors import InvalidStory, InvalidText


class Story:
    """A row of occasions, none earlier than the one ahead of it; it never changes."""

    def __init__(self, occasions=()):
        if not is_sequence(occasions):
            raise InvalidStory(0)
        earliest = 0
        for at, occasion in enumerate(occasions):
            if not is_occasion(occasion) or occasion[0] < earliest:
                raise InvalidStory(at)
            earliest = occasion[0]
        self.occasions = tuple(occasions)

    @classmethod
    def read(cls, text):
        """The story with this text."""
        # The empty text would else have one part, which is no occasion.
        parts = text.split("; ") if text else []
        occasions = [told_occasion(part) for part in parts]
        for at, occasion in enumerate(occasions):
            if occasion is None:
                raise InvalidText(at)
        return cls(occasions)

    def upto(self, day):
        """The story of the occasions that begin ahead of this day."""
        return Story([occasion for occasion in self.occasions if occasion[0] < day])

    def further(self, occasions):
        """The story with these occasions behind its own ones."""
        if not is_sequence(occasions):
            raise InvalidStory(len(self.occasions))
        return Story([*self.occasions, *occasions])

    def __len__(self):
        return len(self.occasions)

    def __eq__(self, other):
        return isinstance(other, Story) and str(self) == str(other)

    def __str__(self):
        return "; ".join([f"{day} {name} {days}" for day, name, days in self.occasions])


def is_occasion(value):
    """Whether a value is a triple (day, name, days) that is an occasion."""
    if not isinstance(value, tuple) or len(value) != 3:
        return False
    day, name, days = value
    return is_number(day) and is_name(name) and is_count(days)


def told_occasion(part):
    """The occasion with this text, or None if it is the text of none."""
    words = part.split(" ")
    if len(words) != 3 or not is_digits(words[0]) or not is_digits(words[2]):
        return None
    occasion = (int(words[0]), words[1], int(words[2]))
    return occasion if is_occasion(occasion) else None
