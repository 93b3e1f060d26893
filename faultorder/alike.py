"""Alike: whether two plants allow the same rows of events, with the same stops."""

from faultorder.errors import Mismatch
from faultorder.states import Steps, check_most, is_all_of


def check_match(one, other):
    """Raise Mismatch if the names of the parts of two plants differ."""
    if sorted([name for name, _ in one.parts]) != sorted([name for name, _ in other.parts]):
        raise Mismatch("the names of the parts differ")


class Both:
    """Two plants that are led by the same events."""

    def __init__(self, one, other):
        self._first = Steps(one)
        self._second = Steps(other)

    def start(self):
        """The pair of the states of the beginning."""
        return self._first.start(), self._second.start()

    def allowed(self, pair):
        """The ascending list of the events that one of both states allows, or both."""
        first, second = self._first.by_event(pair[0]), self._second.by_event(pair[1])
        return sorted(list(first) + [event for event in second if event not in first])

    def follow(self, pair, event):
        """The pair of the states behind an event, or None if it tells a difference."""
        one = self._first.follow(pair[0], event)
        other = self._second.follow(pair[1], event)
        if one is None or other is None or self._first.has_stopped(one) != self._second.has_stopped(other):
            return None
        return one, other


def searched(one, other, most):
    """The pairs that two plants are led to by the same rows, and None, or the least row by which they differ.

    The pairs are then those that were come to ahead of it. A most of None is no limit.
    """
    both = Both(one, other)
    rows = {both.start(): ()}
    check_most(len(rows), most)
    line = [both.start()]
    at = 0
    while at < len(line):
        pair = line[at]
        at += 1
        for event in both.allowed(pair):
            behind = both.follow(pair, event)
            if behind is None:
                return rows, rows[pair] + (event,)
            if behind not in rows:
                rows[behind] = rows[pair] + (event,)
                line.append(behind)
                check_most(len(rows), most)
    return rows, None


def compare(one, other, *, most=20000):
    """("alike", relation), or ("differ", row) with the least row by which two plants differ."""
    check_match(one, other)
    pairs, row = searched(one, other, most)
    if row is not None:
        return "differ", row
    return "alike", tuple(sorted(pairs))


def is_relation(one, other, value):
    """Whether any value is a relation for it that two plants are alike."""
    check_match(one, other)
    pairs, row = searched(one, other, None)
    return row is None and is_all_of(value, pairs)


def are_different(one, other, value):
    """Whether two plants differ by any value."""
    check_match(one, other)
    if not isinstance(value, tuple):
        return False
    both = Both(one, other)
    pair = both.start()
    for at, event in enumerate(value):
        if event not in both.allowed(pair):
            return False
        pair = both.follow(pair, event)
        if pair is None:
            return at == len(value) - 1
    return False
