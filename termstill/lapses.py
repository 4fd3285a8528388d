"""What happens by a told story: the day with which the claim lapses, and what counts until then."""

from termstill.states import begun, first_state, last_day, waited


def lapse(rule, story):
    """The day with which the claim lapses."""
    state, _ = told_state(rule, story)
    return last_day(rule, state)


def counted(rule, story):
    """The indexes of the occasions that count."""
    _, indexes = told_state(rule, story)
    return indexes


def standing(rule, story, day):
    """The pair (left, going) at the beginning of this day, or None if the claim lapsed ahead of it."""
    state, _ = told_state(rule, story.upto(day))
    if last_day(rule, state) < day:
        return None
    _, left, going, _ = waited(state, day)
    return (left, going)


def told_state(rule, story):
    """The state behind the last occasion that counts, and the indexes of all that count."""
    state = first_state(rule)
    indexes = []
    for at, (day, name, days) in enumerate(story.occasions):
        if day > last_day(rule, state):
            break
        behind = begun(rule, waited(state, day), name, days)
        if behind is not None:
            state = behind
            indexes.append(at)
    return state, tuple(indexes)
