"""Occasions whose days are not known exactly, and what is sure all the same."""

from termstill.basics import is_count, is_name, is_number, is_sequence
from termstill.errors import InvalidUnsure
from termstill.lapses import lapse
from termstill.stories import Story


class Unsure:
    """A row of unsure occasions, each of which began on one of several days; it never changes."""

    def __init__(self, occasions):
        if not is_sequence(occasions):
            raise InvalidUnsure(0)
        for at, occasion in enumerate(occasions):
            if not is_unsure(occasion):
                raise InvalidUnsure(at)
        self.occasions = tuple(occasions)


def fillings(unsure):
    """All stories for a choice of a day for each unsure occasion, ascending, each once."""
    rows = [filled_row(unsure, choice) for choice in all_choices(unsure)]
    # Unlike choices can tell the same story.
    return tuple([Story(row) for row in sorted(set(rows))])


def lapses(rule, unsure):
    """All days with which the claim can have lapsed, ascending."""
    return tuple(sorted(set([lapse(rule, story) for story in fillings(unsure)])))


def surely(rule, unsure, day):
    """True if the claim lives on this day in all fillings, False if in none, None else."""
    lives = [last >= day for last in lapses(rule, unsure)]
    if all(lives):
        return True
    return None if any(lives) else False


def deciding(rule, unsure):
    """The indexes of the unsure occasions whose day alone can decide about the lapse, ascending."""
    ends = {choice: lapse(rule, Story(filled_row(unsure, choice))) for choice in all_choices(unsure)}
    return tuple([at for at in range(len(unsure.occasions)) if decides(ends, at)])


def settling(rule, unsure, at, day):
    """The days of the unsure occasion at this index with which the claim surely lives on the day, ascending."""
    first, last, _, _ = unsure.occasions[at]
    return tuple([sure for sure in range(first, last + 1) if surely(rule, settled(unsure, at, sure), day) is True])


def is_unsure(value):
    """Whether a value is a tuple (first, last, name, days) that is an unsure occasion."""
    if not isinstance(value, tuple) or len(value) != 4:
        return False
    first, last, name, days = value
    return is_number(first) and is_number(last) and first <= last and is_name(name) and is_count(days)


def all_choices(unsure):
    """All tuples of a day for each unsure occasion."""
    choices = [()]
    for first, last, _, _ in unsure.occasions:
        choices = [(*choice, day) for choice in choices for day in range(first, last + 1)]
    return choices


def filled_row(unsure, choice):
    """The occasions of the filling for this choice, those of one day in the order in which they are told."""
    places = sorted([(day, at) for at, day in enumerate(choice)])
    return tuple([(day, *unsure.occasions[at][2:]) for day, at in places])


def decides(ends, at):
    """Whether two choices that differ in the day at this index alone have unlike lapses."""
    alone = {}
    for choice, last in ends.items():
        others = (*choice[:at], *choice[at + 1 :])
        if alone.setdefault(others, last) != last:
            return True
    return False


def settled(unsure, at, day):
    """The unsure occasions with this day as the sure one of that at this index."""
    rows = unsure.occasions
    return Unsure([*rows[:at], (day, day, *rows[at][2:]), *rows[at + 1 :]])
