"""A claim that goes on while it is told what happens, and whatever was told can be taken back."""

from termstill.basics import is_count, is_name, is_sequence
from termstill.errors import Refused
from termstill.states import begun, first_state, last_day, waited
from termstill.stories import Story, is_occasion


class Live:
    """A claim that goes on by a rule, at first at the beginning of day 0.

    A moment is a triple (state, last, story): what is now, the last day if nothing more happens, and what began. Behind
    the lapse the state is on the day behind the last one.
    """

    def __init__(self, rule):
        state = first_state(rule)
        self._rule = rule
        self._now = (state, last_day(rule, state), Story())
        self._past = []

    @property
    def rule(self):
        """The rule of the claim."""
        return self._rule

    @property
    def day(self):
        """The number of this day, or of the one behind the last one."""
        return self._now[0][0]

    @property
    def story(self):
        """What began until now."""
        return self._now[2]

    @property
    def last(self):
        """The last day, if nothing more happens."""
        return self._now[1]

    @property
    def alive(self):
        """Whether the claim lives now."""
        return is_alive(self._now)

    def begin(self, name, days=1):
        """An occasion begins now; whether it counts."""
        if not self.alive or not is_name(name) or not is_count(days):
            raise Refused(self.day)
        behind, counts = begun_moment(self._rule, self._now, name, days)
        self._go_on(behind)
        return counts

    def wait(self, many=1):
        """So many days go by; whether the claim lives still."""
        self._go_on(waited_moment(self._now, self.day + many))
        return self.alive

    def several(self, occasions):
        """All these occasions begin, each on its day, or none of them; whether each one counts."""
        if not is_sequence(occasions):
            raise Refused(0)
        behind = self._now
        counted = []
        for at, occasion in enumerate(occasions):
            if not is_occasion(occasion) or occasion[0] < behind[0][0]:
                raise Refused(at)
            day, name, days = occasion
            behind = waited_moment(behind, day)
            if not is_alive(behind):
                raise Refused(at)
            behind, counts = begun_moment(self._rule, behind, name, days)
            counted.append(counts)
        self._go_on(behind)
        return tuple(counted)

    def undo(self):
        """Take back what was done last; whether there was anything."""
        if not self._past:
            return False
        self._now = self._past.pop()
        return True

    def within(self, work):
        """What the work returns that is called with the claim; behind it all is as it was ahead."""
        now, past = self._now, list(self._past)
        try:
            return work(self)
        finally:
            self._now = now
            self._past = past

    def standing(self):
        """The pair (left, going) now, with the occasions of this day."""
        _, left, going, _ = self._now[0]
        return (left, going)

    def _go_on(self, behind):
        """Go on to another moment, in such a way that this one can be had back."""
        self._past.append(self._now)
        self._now = behind

    def __len__(self):
        return len(self._past)


def is_alive(moment):
    """Whether the claim lives at a moment."""
    state, last, _ = moment
    return state[0] <= last


def begun_moment(rule, moment, name, days):
    """The moment behind an occasion that begins at this one, and whether it counts."""
    state, last, story = moment
    further = story.further([(state[0], name, days)])
    behind = begun(rule, state, name, days)
    if behind is None:
        return (state, last, further), False
    return (behind, last_day(rule, behind), further), True


def waited_moment(moment, day):
    """The moment at the beginning of a later day, or of the one behind the last day if this is earlier."""
    state, last, story = moment
    return (waited(state, min(day, last + 1)), last, story)
