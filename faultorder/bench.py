"""Benches: sessions in which a plant is led and altered, with undo, redo and a journal."""

from faultorder.errors import NoOperation, NothingLeft
from faultorder.mending import kept
from faultorder.plants import Plant, is_list
from faultorder.runs import at, beginning, truths_in

# The words of the operations, each with the length of its tuples.
FORMS = (("event", 2), ("cause", 3), ("top", 2), ("begin", 1))


def is_operation(value):
    """Whether any value has the form of an operation, whatever stands behind its word."""
    return isinstance(value, tuple) and value[:1] + (len(value),) in FORMS


def altered(plant, operation):
    """The plant with one cause more, or with another top."""
    if operation[0] == "cause":
        return Plant(plant.parts, plant.gates, plant.causes + (operation[1:],), plant.top)
    return Plant(plant.parts, plant.gates, plant.causes, operation[1])


def behind_operation(plant, state, operation):
    """The plant, its state and the result behind what has the form of an operation."""
    if operation[0] == "event":
        run = at(plant, state)
        told = run.do(operation[1])
        return plant, run.state, told
    if operation[0] != "begin":
        plant = altered(plant, operation)
    return plant, beginning(plant), None


def copied(entry):
    """An entry of a journal that shares nothing with it that can be changed."""
    if entry[0] != "asked":
        return entry
    word, crew, (kind, told) = entry
    return word, crew, (kind, {key: told[key] for key in told})


class Bench:
    """A session: a plant, its state, and all that was done so far."""

    def __init__(self, plant):
        # Of each operation that stands, or was taken back: itself, and the places ahead of it and behind it.
        self._done = []
        self._undone = []
        self._entries = []
        self._enter((plant, beginning(plant)))

    def _enter(self, place):
        self._plant, self._state = place
        self._stopped = truths_in(self._plant, self._state)[self._plant.top]

    @property
    def plant(self):
        """The plant now."""
        return self._plant

    @property
    def state(self):
        """The state of the plant."""
        return self._state

    @property
    def stopped(self):
        """Whether the plant has stopped."""
        return self._stopped

    def do(self, operation):
        """Do an operation: the tuple of the parts that fail by an event, else None."""
        return self.do_all([operation])[0]

    def do_all(self, operations):
        """Do a list of operations, all or none: the list of what do returns for them."""
        if not is_list(operations):
            raise NoOperation(0)
        for index, operation in enumerate(operations):
            if not is_operation(operation):
                raise NoOperation(index)
        place = (self._plant, self._state)
        steps, told = [], []
        for operation in operations:
            plant, state, result = behind_operation(place[0], place[1], operation)
            steps.append((operation, place, (plant, state)))
            told.append(result)
            place = (plant, state)
        if steps:
            self._undone = []
        self._done.extend(steps)
        self._entries.extend([("done", step[0], result) for step, result in zip(steps, told)])
        self._enter(place)
        return told

    def undo(self):
        """Take back the last operation that stands."""
        if not self._done:
            raise NothingLeft("there is no operation to take back")
        step = self._done.pop()
        self._undone.append(step)
        self._entries.append(("undone",))
        self._enter(step[1])

    def redo(self):
        """Do the operation again that was taken back last."""
        if not self._undone:
            raise NothingLeft("there is no operation to do again")
        step = self._undone.pop()
        self._done.append(step)
        self._entries.append(("redone",))
        self._enter(step[2])

    def log(self):
        """The list of the operations that stand."""
        return [step[0] for step in self._done]

    def ask(self, crew):
        """Whether a crew that may mend all parts keeps the plant from its beginning, as kept tells it."""
        entry = ("asked", crew, kept(self._plant, crew))
        self._entries.append(entry)
        return copied(entry)[2]

    def journal(self):
        """The tuple of all entries, in order."""
        return tuple([copied(entry) for entry in self._entries])

    def copy(self):
        """A bench with the same behind it, independent of this one."""
        other = Bench(self._plant)
        other._done = list(self._done)
        other._undone = list(self._undone)
        other._entries = list(self._entries)
        other._enter((self._plant, self._state))
        return other
