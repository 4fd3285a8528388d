"""Papers: tables of pairs which show that no story lapses later than a day, and which anybody can check."""

from termstill.basics import is_integer, is_number
from termstill.counts import all_counts, count_behind, first_count, most_counts
from termstill.pairs import first_pair, led_pair
from termstill.ways import endless_kinds, greatest_ways


def paper(rule, day):
    """Some right paper for this day, or None if there is none."""
    if shown_by_cap(rule, day):
        return ()
    # Such a kind leads on from each pair, so that no pairs are great enough.
    if endless_kinds(rule):
        return None
    told = tuple([(count, *pair) for count, (pair, _) in greatest_ways(rule).items()])
    return told if is_no_later(told, day) else None


def paper_holds(rule, day, value):
    """Whether any value is a right paper for this day."""
    if value == () and shown_by_cap(rule, day):
        return True
    return is_paper(rule, value) and is_no_later(value, day) and is_enough(rule, value)


def shown_by_cap(rule, day):
    """Whether the cap alone shows that no story lapses later."""
    return rule.cap is not None and rule.cap <= day + 1


def is_paper(rule, value):
    """Whether any value is a paper, be it right or not."""
    if not isinstance(value, tuple) or not all([is_entry(part) for part in value]):
        return False
    return sorted([count for count, _, _ in value]) == all_counts(most_counts(rule))


def is_entry(value):
    """Whether any value is a triple of a tuple of numbers, an integer, and 0 or 1."""
    if not isinstance(value, tuple) or len(value) != 3:
        return False
    count, day, left = value
    if not isinstance(count, tuple) or not all([is_number(many) for many in count]):
        return False
    return is_integer(day) and is_number(left) and left <= 1


def is_no_later(told, day):
    """Whether no pair of a paper is later than this day."""
    return all([last <= day for _, last, _ in told])


def is_enough(rule, told):
    """Whether each pair of a paper is at least those that lead to it."""
    pairs = {count: (last, left) for count, last, left in told}
    if pairs[first_count(rule)] < first_pair(rule):
        return False
    for count, pair in pairs.items():
        for at, kind in enumerate(rule.kinds):
            behind = count_behind(rule, count, at)
            if behind is not None and pairs[behind] < led_pair(rule, pair, kind):
                return False
    return True
