"""States: all those that rows of events lead a plant to, with least rows to them."""

from faultorder.errors import TooMany
from faultorder.runs import after, beginning, events_in, truths_in

# A pair of states is a tuple with tuples down to the pairs (gate, part) in it.
DEEPEST_KEY = 4


class Steps:
    """The single events of a plant, each state's worked out once, when it is asked for."""

    def __init__(self, plant):
        self._plant = plant
        self._failures = {}
        self._events = {}
        self._stops = {}

    def start(self):
        """The state of the beginning."""
        return beginning(self._plant)

    def has_stopped(self, state):
        """Whether the plant has stopped in a state."""
        if state not in self._stops:
            self._stops[state] = truths_in(self._plant, state)[self._plant.top]
        return self._stops[state]

    def failures(self, state):
        """A dict from the failures that are possible in a state, ascending, to the states behind them."""
        if state not in self._failures:
            self._failures[state] = self._worked_out(state, "fail")
        return self._failures[state]

    def by_event(self, state):
        """A dict from all events that are possible in a state, ascending, to the states behind them."""
        if state not in self._events:
            self._events[state] = {**self.failures(state), **self._worked_out(state, "mend")}
        return self._events[state]

    def follow(self, state, event):
        """The state behind any value, or None if that is no event that is possible."""
        behind = self.by_event(state)
        # Any value may stand here, also one that cannot be a key.
        return behind[event] if event in list(behind) else None

    def _worked_out(self, state, word):
        plant = self._plant
        events = [event for event in events_in(plant, state) if event[0] == word]
        return {event: after(plant, state, event)[0] for event in events}


def check_most(many, most):
    """Raise TooMany if there are more than most; None is no limit."""
    if most is not None and many > most:
        raise TooMany(most)


def walked(start, onward, most):
    """A dict from all states that rows lead to from one, to the least such rows, in the order of these rows.

    onward(state) is a dict from events, ascending, to the states behind them.
    """
    rows = {start: ()}
    check_most(len(rows), most)
    line = [start]
    while line:
        next_line = []
        for state in line:
            for event, behind in onward(state).items():
                if behind not in rows:
                    rows[behind] = rows[state] + (event,)
                    next_line.append(behind)
                    check_most(len(rows), most)
        line = next_line
    return rows


def rows_to_states(steps, mends, most):
    """As walked, from the beginning of a plant, by failures alone if mends is False."""
    if mends:
        return walked(steps.start(), steps.by_event, most)
    return walked(steps.start(), steps.failures, most)


def is_key(value, deep):
    """Whether any value is a string or a tuple of such, at most so deep, and so can be looked up in a dict."""
    if isinstance(value, str):
        return True
    if not isinstance(value, tuple) or deep == 0:
        return False
    return all([is_key(item, deep - 1) for item in value])


def is_all_of(value, known):
    """Whether any value is a tuple of exactly the keys of a dict, states or pairs of them, each once."""
    if not isinstance(value, tuple) or len(value) != len(known):
        return False
    if not all([is_key(item, DEEPEST_KEY) and item in known for item in value]):
        return False
    return len(set(value)) == len(value)


def reached(plant, *, mends=True, most=2000):
    """A dict from all states that some row leads to, to the least such rows; without mends if mends is False."""
    rows = rows_to_states(Steps(plant), mends, most)
    return {state: rows[state] for state in sorted(rows)}


def is_reached(plant, value, *, mends=True):
    """Whether any value is a tuple of exactly the states that some row leads to, each once."""
    return isinstance(value, tuple) and is_all_of(value, rows_to_states(Steps(plant), mends, None))
