"""Runs: a plant that is led by events, one at a time."""

from faultorder.errors import NoEvent
from faultorder.plants import first_uses, is_list, take, tell


def beginning(plant):
    """The state of a plant at its beginning."""
    return (), tuple(first_uses(plant.gates).items()), ()


def truths_in(plant, state):
    """A dict from the names of all parts and gates, as the plant has them, to their truths in a state."""
    failed, uses, held = state
    return tell(plant.parts, plant.gates, failed, dict(uses), lambda gate, told: gate[0] in held)


def events_in(plant, state):
    """The ascending list of the events that are possible in a state."""
    failed, uses, _ = state
    used = [part for _, part in uses]
    events = [("mend", name) for name in failed]
    for name, kind in plant.parts:
        if name not in failed and (kind == "hot" or name in used):
            events.append(("fail", name))
    return sorted(events)


def came_first(gate, now, earlier):
    """Whether a before gate is true, by the truths now and those behind the last event."""
    name, _, one, other = gate
    return now[one] and now[other] and earlier[one] and (not earlier[other] or earlier[name])


def truths_now(plant, failed, uses, earlier):
    """The truths within an event, earlier being those behind the event before."""
    return tell(plant.parts, plant.gates, failed, uses, lambda gate, now: came_first(gate, now, earlier))


def state_of(plant, failed, uses, truths):
    """The state that these failed parts, uses and truths make up."""
    held = [gate[0] for gate in plant.gates if gate[1] == "before" and truths[gate[0]]]
    return tuple(sorted(failed)), tuple(uses.items()), tuple(held)


def joining(plant, now, step_before, line):
    """The parts that join the line, by the truths now and those behind the step before."""
    parts_joining = []
    for trigger, parts in plant.causes:
        if now[trigger] and not step_before[trigger]:
            waiting = line + parts_joining
            parts_joining.extend([name for name in parts if not now[name] and name not in waiting])
    return parts_joining


def after_failure(plant, state, part):
    """The state behind the failure of a part, and the tuple of the parts that fail by it."""
    earlier = truths_in(plant, state)
    failed = list(state[0])
    uses = dict(state[1])
    now = earlier
    fallen = []
    # The first step is like the others: the part fails that stands first in the line.
    line = [part]
    while line:
        name = line.pop(0)
        failed.append(name)
        fallen.append(name)
        step_before = now
        uses = take(plant.gates, uses, failed)
        now = truths_now(plant, failed, uses, earlier)
        line = line + joining(plant, now, step_before, line)
    return state_of(plant, failed, uses, now), tuple(fallen)


def after_mend(plant, state, part):
    """The state behind the mend of a part; it makes nothing true, and so starts no cause."""
    failed = [name for name in state[0] if name != part]
    uses = take(plant.gates, dict(state[1]), failed)
    return state_of(plant, failed, uses, truths_now(plant, failed, uses, truths_in(plant, state)))


def after(plant, state, event):
    """The state behind an event that is possible in a state, and the tuple of the parts that fail by it."""
    word, part = event
    if word == "mend":
        return after_mend(plant, state, part), ()
    return after_failure(plant, state, part)


class Run:
    """A plant that is led from its beginning by events."""

    def __init__(self, plant):
        self._plant = plant
        self._enter(beginning(plant))

    def _enter(self, state):
        self._state = state
        self._stopped = truths_in(self._plant, state)[self._plant.top]

    @property
    def plant(self):
        """The plant that is led."""
        return self._plant

    @property
    def state(self):
        """The tuple (failed, uses, held), which tells all of the plant at this moment."""
        return self._state

    @property
    def stopped(self):
        """Whether the top is true."""
        return self._stopped

    def truths(self):
        """A dict from the names of all parts and gates, ascending, to their truths."""
        told = truths_in(self._plant, self._state)
        return {name: told[name] for name in sorted(told)}

    def possible(self):
        """The ascending list of the events that are possible."""
        return events_in(self._plant, self._state)

    def do(self, event):
        """Let an event come: the tuple of the parts that fail by it, in order."""
        return self.do_all([event])[0]

    def do_all(self, events):
        """Let a list of events come, all or none: the list of what do returns for them."""
        if not is_list(events):
            raise NoEvent(0)
        state = self._state
        told = []
        for index, event in enumerate(events):
            if event not in events_in(self._plant, state):
                raise NoEvent(index)
            state, fallen = after(self._plant, state, event)
            told.append(fallen)
        self._enter(state)
        return told

    def copy(self):
        """A run in the same state, independent of this one."""
        return at(self._plant, self._state)


def at(plant, state):
    """The run of a plant in a state that some row leads to."""
    run = Run(plant)
    run._enter(state)
    return run
