"""Distances: how many failures a stop is away, and what brings it nearer or saves a plant."""

from faultorder.orders import least_orders
from faultorder.states import Steps, rows_to_states


class Distances:
    """The distances of the states of a plant, each worked out once, when it is asked for."""

    def __init__(self, steps):
        self._steps = steps
        self._known = {}

    def stop_from(self, state):
        """The least number of failures that stop the plant from a state, or None."""
        if state not in self._known:
            self._known[state] = self._worked_out(state)
        return self._known[state]

    def _worked_out(self, state):
        if self._steps.has_stopped(state):
            return 0
        found = [self.stop_from(behind) for behind in self._steps.failures(state).values()]
        return min([number + 1 for number in found if number is not None], default=None)


def distance(plant, state):
    """The least number of failures that stop a plant from a state, 0 if it has stopped, None if none do."""
    return Distances(Steps(plant)).stop_from(state)


def is_nearer(number, other):
    """Whether a distance is less than another one; None is more than every number."""
    return number is not None and (other is None or number < other)


def harmful(plant, *, most=2000):
    """The least row, and the least part whose mend behind it makes the distance less; or None."""
    steps = Steps(plant)
    distances = Distances(steps)
    rows = rows_to_states(steps, True, most)
    # The states come in the order of the least rows to them.
    for state in rows:
        for event, behind in steps.by_event(state).items():
            if event[0] == "mend" and is_nearer(distances.stop_from(behind), distances.stop_from(state)):
                return rows[state], event[1]
    return None


def state_behind(steps, parts):
    """The state behind the failures of a tuple of parts, or None if they are no row."""
    state = steps.start()
    for part in parts:
        state = steps.follow(state, ("fail", part))
        if state is None:
            return None
    return state


def saving(plant):
    """The list of the pairs of a least order and a part whose failure ahead of it saves the plant from it."""
    steps = Steps(plant)
    names = sorted([name for name, _ in plant.parts])
    found = []
    for order in least_orders(plant):
        for part in [name for name in names if name not in order]:
            state = state_behind(steps, (part,) + order)
            if state is not None and not steps.has_stopped(state):
                found.append((order, part))
    return found
