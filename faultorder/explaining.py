"""Explaining: which rows explain a record of what was seen, and which parts have surely failed."""

from faultorder.runs import truths_in
from faultorder.states import Steps, walked
from faultorder.watching import check_sensors, shown


class Shows:
    """What some sensors show in the states of a plant, worked out once for each state, when it is asked for."""

    def __init__(self, plant, sensors):
        self._plant = plant
        self._sensors = tuple(sensors)
        self._known = {}

    def shown_in(self, state):
        """The tuple of truths that the sensors show in a state."""
        if state not in self._known:
            self._known[state] = shown(self._sensors, truths_in(self._plant, state))
        return self._known[state]


def are_truths(value):
    """Whether any value is a tuple of bools; 1 and 0 are none."""
    return isinstance(value, tuple) and all([isinstance(item, bool) for item in value])


def is_record(value):
    """Whether any value is a tuple of tuples of bools, perhaps one that is never seen."""
    return isinstance(value, tuple) and all([are_truths(item) for item in value])


def next_index(record, index, now):
    """The index in a record behind an event that lets the sensors show this now, or None if the record is another."""
    # What is equal to the tuple ahead of it is not noticed, also where the record has it twice.
    if now == record[index]:
        return index
    if index + 1 < len(record) and now == record[index + 1]:
        return index + 1
    return None


def explaining_rows(plant, sensors, record):
    """A dict from the states behind any value to the least rows that explain it, in the order of these rows."""
    steps = Steps(plant)
    shows = Shows(plant, sensors)
    if not is_record(record) or record[:1] != (shows.shown_in(steps.start()),):
        return {}

    def onward(place):
        """What events lead to that go on with the record: states, each with the index in the record."""
        state, index = place
        found = {}
        for event, then in steps.by_event(state).items():
            at = None if steps.has_stopped(then) else next_index(record, index, shows.shown_in(then))
            if at is not None:
                found[event] = (then, at)
        return found

    rows = walked((steps.start(), 0), onward, None)
    return {state: rows[state, index] for state, index in rows if index == len(record) - 1}


def explained(plant, sensors, record):
    """The least row that explains a record, or None for any value that none explains."""
    check_sensors(plant, sensors)
    rows = list(explaining_rows(plant, sensors, record).values())
    return rows[0] if rows else None


def behind(plant, sensors, record):
    """The ascending tuple of the states behind a record, () for any other value."""
    check_sensors(plant, sensors)
    return tuple(sorted(explaining_rows(plant, sensors, record)))


def how_sure(name, states):
    """Whether a part has failed in all of some states, in none, or in some."""
    told = [name in failed for failed, _, _ in states]
    if all(told):
        return "failed"
    return "open" if any(told) else "working"


def suspects(plant, sensors, record):
    """A dict from all parts to "failed", "working" or "open" by the states behind a record; {} if there are none."""
    states = behind(plant, sensors, record)
    if not states:
        return {}
    return {name: how_sure(name, states) for name in sorted([name for name, _ in plant.parts])}
