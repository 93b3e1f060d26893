"""Machines: tables of rows that tell what is possible and what has stopped, and nothing else of a plant."""

from faultorder.errors import BadMachine, NoEvent
from faultorder.plants import MOST_PARTS, is_integer, is_list, is_name
from faultorder.states import Steps, rows_to_states


def is_event(value, parts):
    """Whether any value is an event of the parts with these names, possible or not."""
    if not isinstance(value, tuple) or len(value) != 2:
        return False
    return value[0] in ("fail", "mend") and value[1] in parts


def are_ascending(values):
    """Whether values of one kind are different and ascending."""
    return all([values[at - 1] < values[at] for at in range(1, len(values))])


def are_names(value):
    """Whether any value is a tuple of names of parts, as a machine has it."""
    if not isinstance(value, tuple) or not 1 <= len(value) <= MOST_PARTS:
        return False
    return all([is_name(item) for item in value]) and are_ascending(value)


def is_step(value, parts, many):
    """Whether any value is a pair of an event and the index of one of so many rows."""
    if not isinstance(value, tuple) or len(value) != 2 or not is_event(value[0], parts):
        return False
    return is_integer(value[1]) and 0 <= value[1] < many


def is_row(value, parts, many):
    """Whether any value is one of so many rows of a machine."""
    if not isinstance(value, tuple) or len(value) != 2 or not isinstance(value[0], bool):
        return False
    if not isinstance(value[1], tuple) or not all([is_step(item, parts, many) for item in value[1]]):
        return False
    return are_ascending([event for event, _ in value[1]])


def are_rows(value, parts):
    """Whether any value is a tuple of rows, as a machine of the parts with these names has it."""
    if not isinstance(value, tuple) or not value:
        return False
    return all([is_row(item, parts, len(value)) for item in value])


def numbered(keys):
    """The number of each key in the order in which they come first, equal keys having the same one."""
    known = {}
    numbers = []
    for key in keys:
        numbers.append(known.setdefault(key, len(known)))
    return numbers


def class_numbers(rows):
    """For each row the number of its class: rows of one class are alike, and no others."""
    numbers = numbered([(stopped, tuple([event for event, _ in steps])) for stopped, steps in rows])
    while True:
        behind = [tuple([numbers[index] for _, index in steps]) for _, steps in rows]
        finer = numbered(list(zip(numbers, behind)))
        if max(finer) == max(numbers):
            return numbers
        numbers = finer


def smallest_rows(rows):
    """A row for each class that row 0 leads to, in the order in which they are first reached."""
    numbers = class_numbers(rows)
    indexes = {numbers[0]: 0}
    chosen = [rows[0]]
    at = 0
    while at < len(chosen):
        for _, index in chosen[at][1]:
            if numbers[index] not in indexes:
                indexes[numbers[index]] = len(chosen)
                chosen.append(rows[index])
        at += 1
    return tuple([(stopped, tuple([(event, indexes[numbers[index]]) for event, index in steps]))
                  for stopped, steps in chosen])


def rows_of(states, onward, has_stopped):
    """The rows, as a machine has them, of a list of states; onward as walked takes it."""
    indexes = {state: index for index, state in enumerate(states)}
    rows = []
    for state in states:
        steps = [(event, indexes[behind]) for event, behind in onward(state).items()]
        rows.append((has_stopped(state), tuple(steps)))
    return rows


class Machine:
    """A machine: its parts and its rows, which never change. It begins at row 0."""

    def __init__(self, parts, rows):
        if not are_names(parts) or not are_rows(rows, parts):
            raise BadMachine("the parts or the rows are not as documented")
        self._parts = parts
        self._rows = rows

    def __eq__(self, other):
        return isinstance(other, Machine) and self._parts == other._parts and self._rows == other._rows

    def __len__(self):
        return len(self._rows)

    @property
    def parts(self):
        """The ascending tuple of the names of the parts."""
        return self._parts

    @property
    def rows(self):
        """The tuple of the pairs (stopped, steps)."""
        return self._rows

    def play(self, events):
        """The list of bools, whether it has stopped behind each event."""
        if not is_list(events):
            raise NoEvent(0)
        row = self._rows[0]
        told = []
        for at, event in enumerate(events):
            indexes = [index for allowed, index in row[1] if allowed == event]
            if not indexes:
                raise NoEvent(at)
            row = self._rows[indexes[0]]
            told.append(row[0])
        return told

    def smallest(self):
        """The machine with as few rows as possible that allows the same, and has stopped behind the same."""
        return Machine(self._parts, smallest_rows(self._rows))


def machine_of(plant, *, most=2000):
    """The machine of a plant."""
    steps = Steps(plant)
    states = list(rows_to_states(steps, True, most))
    rows = rows_of(states, steps.by_event, steps.has_stopped)
    return Machine(tuple(sorted([name for name, _ in plant.parts])), smallest_rows(rows))
