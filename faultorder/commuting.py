"""Commuting: of which two parts the order of their failures never matters."""

from faultorder.errors import NoPart
from faultorder.machines import class_numbers, rows_of
from faultorder.states import Steps, rows_to_states


def classes_of(steps):
    """A dict from all states that some row leads to to numbers; alike states have the same one, and no others."""
    states = list(rows_to_states(steps, True, None))
    numbers = class_numbers(rows_of(states, steps.by_event, steps.has_stopped))
    return {state: number for state, number in zip(states, numbers)}


def commute_at(steps, classes, state, one, other):
    """Whether in a state, in which both can fail, the order of two failures does not matter."""
    behind = steps.failures(state)
    behind_one, behind_other = steps.failures(behind[one]), steps.failures(behind[other])
    if (other in behind_one) != (one in behind_other):
        return False
    if other in behind_one:
        return classes[behind_one[other]] == classes[behind_other[one]]
    return classes[behind[one]] == classes[behind[other]]


def found_apart(plant):
    """A dict from the pairs of parts that do not commute to the least tuple of parts ahead of them."""
    steps = Steps(plant)
    classes = classes_of(steps)
    rows = rows_to_states(steps, False, None)
    found = {}
    for state in rows:
        events = list(steps.failures(state))
        for one in events:
            for other in events:
                pair = (one[1], other[1])
                # The states come in the order of the least rows to them, so the first one found is the least.
                if one < other and pair not in found and not commute_at(steps, classes, state, one, other):
                    found[pair] = tuple([part for _, part in rows[state]])
    return found


def pairs_of(plant):
    """The ascending list of the pairs of different parts, the lesser one first."""
    names = sorted([name for name, _ in plant.parts])
    return [(one, other) for one in names for other in names if one < other]


def commuting(plant):
    """The ascending list of the pairs of parts that commute."""
    found = found_apart(plant)
    return [pair for pair in pairs_of(plant) if pair not in found]


def apart(plant, p, q):
    """None if two parts commute, else the least tuple of parts behind whose failures they do not."""
    names = [name for name, _ in plant.parts]
    if p not in names:
        raise NoPart(0)
    if q not in names or q == p:
        raise NoPart(1)
    pair = (p, q) if p < q else (q, p)
    return found_apart(plant).get(pair)
