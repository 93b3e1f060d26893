"""Watching: what sensors show of a plant, and whether its stops can be foretold from it."""

from faultorder.distances import Distances
from faultorder.errors import NoEvent, NoNumber, NoSensor
from faultorder.machines import rows_of
from faultorder.orders import left_over
from faultorder.plants import is_integer, is_list
from faultorder.runs import truths_in
from faultorder.states import Steps, is_all_of, walked


def check_sensors(plant, value):
    """Raise NoSensor for any value that is no list of different names of parts or gates."""
    if not is_list(value):
        raise NoSensor(0)
    names = [name for name, _ in plant.parts] + [gate[0] for gate in plant.gates]
    for index, item in enumerate(value):
        if item not in names or item in value[:index]:
            raise NoSensor(index)


def check_ahead(value):
    """Raise NoNumber for any value that is no integer from 1."""
    if not is_integer(value) or value < 1:
        raise NoNumber(value)


def shown(sensors, truths):
    """The tuple of truths that sensors show, by the truths of all parts and gates."""
    return tuple([truths[name] for name in sensors])


def seen_of(plant, sensors, states):
    """The tuple of what is seen of some states, one behind the other."""
    told = []
    for state in states:
        now = shown(sensors, truths_in(plant, state))
        if not told or told[-1] != now:
            told.append(now)
    return tuple(told)


def led_through(steps, value):
    """The list of the states that values lead to, from the beginning, up to the first value that is no event."""
    states = [steps.start()]
    for event in value:
        behind = steps.follow(states[-1], event)
        if behind is None:
            return states
        states.append(behind)
    return states


def seen(plant, sensors, events):
    """The tuple of what sensors let see of a row."""
    check_sensors(plant, sensors)
    if not is_list(events):
        raise NoEvent(0)
    states = led_through(Steps(plant), events)
    if len(states) <= len(events):
        raise NoEvent(len(states) - 1)
    return seen_of(plant, sensors, states)


def is_near(distances, state, ahead):
    """Whether a state is in danger of so many failures."""
    number = distances.stop_from(state)
    return number is not None and 1 <= number <= ahead


def in_danger(plant, state, *, ahead=1):
    """Whether a state that some row leads to is in danger of so many failures."""
    check_ahead(ahead)
    return is_near(Distances(Steps(plant)), state, ahead)


def going_on(steps):
    """The states that rows lead to which never stop the plant, and for each the pairs (event, index of a state)."""

    def onward(state):
        """The events that do not stop the plant."""
        behind = steps.by_event(state)
        return {event: behind[event] for event in behind if not steps.has_stopped(behind[event])}

    states = list(walked(steps.start(), onward, None))
    return states, [moves for _, moves in rows_of(states, onward, steps.has_stopped)]


class Going:
    """A plant as long as it goes on: its states, by their indexes, and what is so of each."""

    def __init__(self, plant, ahead):
        steps = Steps(plant)
        distances = Distances(steps)
        self.states, self.moves = going_on(steps)
        self.told = [truths_in(plant, state) for state in self.states]
        # Those that are right ahead of a stop, and those in which a stop may be foretold.
        self.last = [is_near(distances, state, 1) for state in self.states]
        self.warned = [is_near(distances, state, ahead) for state in self.states]

    def is_missed(self, pair):
        """Whether the first state of a pair is right ahead of a stop, and the second one in no danger."""
        return self.last[pair[0]] and not self.warned[pair[1]]

    def split_moves(self, sensors):
        """For each state the moves that change nothing of what is shown, and a dict from what others show to them."""
        shows = [shown(sensors, truths) for truths in self.told]
        quiet, noticed = [], []
        for index, moves in enumerate(self.moves):
            quiet.append([(event, behind) for event, behind in moves if shows[behind] == shows[index]])
            changes = {}
            for event, behind in moves:
                if shows[behind] != shows[index]:
                    changes.setdefault(shows[behind], []).append((event, behind))
            noticed.append(changes)
        return quiet, noticed


def quiet_pairs(quiet, pair):
    """The pairs that one event leads to which is not noticed, each with the step to it.

    A step is the pair ahead of it, and the events of the first and of the second row, None for no event.
    """
    one, other = pair
    found = [((behind, other), (pair, event, None)) for event, behind in quiet[one]]
    return found + [((one, behind), (pair, None, event)) for event, behind in quiet[other]]


def noticed_pairs(noticed, pair):
    """The pairs that two events lead to by which the same comes to be shown, each with the step to it."""
    one, other = pair
    found = []
    for now, moves in noticed[one].items():
        for event, behind in moves:
            for second, behind_second in noticed[other].get(now, []):
                found.append(((behind, behind_second), (pair, event, second)))
    return found


def looking_same(going, sensors):
    """A dict from the pairs that two rows lead to of which the same is seen to the last steps to them.

    The rows have as few events together as can be. The search ends with the first pair that is missed:
    (pairs, that one or None).
    """
    quiet, noticed = going.split_moves(sensors)
    last_steps = {}
    # What waits for its turn, by the number of events of both rows: so many, and one more.
    now, soon = [((0, 0), None)], []
    while now or soon:
        later = []
        for pair, step in now:
            if pair not in last_steps:
                last_steps[pair] = step
                if going.is_missed(pair):
                    return last_steps, pair
                soon.extend(quiet_pairs(quiet, pair))
                later.extend(noticed_pairs(noticed, pair))
        now, soon = soon, later
    return last_steps, None


def rows_to(last_steps, pair):
    """The two rows that lead to a pair by these last steps."""
    one, other = [], []
    step = last_steps[pair]
    while step is not None:
        before, event, second = step
        if event is not None:
            one.append(event)
        if second is not None:
            other.append(second)
        step = last_steps[before]
    return tuple(one[::-1]), tuple(other[::-1])


def pairs_of_states(going, pairs):
    """A dict that has the pairs of the states with these indexes as its keys."""
    return {(going.states[one], going.states[other]): True for one, other in pairs}


def foretold(plant, sensors, *, ahead=1):
    """("foretold", relation), or ("unwarned", one, other) with two rows, as few events together as can be."""
    check_sensors(plant, sensors)
    check_ahead(ahead)
    going = Going(plant, ahead)
    last_steps, missed = looking_same(going, sensors)
    if missed is None:
        return "foretold", tuple(sorted(pairs_of_states(going, last_steps)))
    one, other = rows_to(last_steps, missed)
    return "unwarned", one, other


def is_foretold(plant, sensors, value, *, ahead=1):
    """Whether any value is a relation for it that the stops are foretold."""
    check_sensors(plant, sensors)
    check_ahead(ahead)
    going = Going(plant, ahead)
    last_steps, missed = looking_same(going, sensors)
    return missed is None and is_all_of(value, pairs_of_states(going, last_steps))


def is_going_row(steps, value):
    """Whether any value is a row such that the plant has not stopped behind any beginning of it."""
    if not isinstance(value, tuple):
        return False
    states = led_through(steps, value)
    return len(states) == len(value) + 1 and not any([steps.has_stopped(state) for state in states])


def is_unwarned(plant, sensors, value, *, ahead=1):
    """Whether any value is a pair of two rows by which the stops are not foretold."""
    check_sensors(plant, sensors)
    check_ahead(ahead)
    steps = Steps(plant)
    if not isinstance(value, tuple) or len(value) != 2:
        return False
    if not is_going_row(steps, value[0]) or not is_going_row(steps, value[1]):
        return False
    one, other = led_through(steps, value[0]), led_through(steps, value[1])
    if seen_of(plant, sensors, one) != seen_of(plant, sensors, other):
        return False
    distances = Distances(steps)
    return is_near(distances, one[-1], 1) and not is_near(distances, other[-1], ahead)


def least_choices(names, is_enough):
    """The list of all least ascending tuples of names that are enough, by length, then ascending.

    Those that contain one that was found are not tried: with more names there is always enough.
    """
    found = []
    for chosen in sorted(left_over(sorted(names)), key=lambda choice: (len(choice), choice)):
        more = any([all([name in chosen for name in less]) for less in found])
        if not more and is_enough(chosen):
            found.append(chosen)
    return found


def least_sensors(plant, names, *, ahead=1):
    """The list of all least ascending tuples of names by which the stops are foretold, by length, then ascending."""
    check_sensors(plant, names)
    check_ahead(ahead)
    going = Going(plant, ahead)
    return least_choices(names, lambda sensors: looking_same(going, sensors)[1] is None)
