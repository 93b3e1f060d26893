"""Chances: how likely a stop is, by exact fractions, when events are drawn."""

from math import gcd, lcm

from faultorder.errors import NoNumber, NoOdds
from faultorder.machines import is_event, rows_of, smallest_rows
from faultorder.plants import is_integer
from faultorder.states import Steps, walked


def is_chance(value):
    """Whether any value is a fraction above 0."""
    if not isinstance(value, tuple) or len(value) != 2:
        return False
    if not is_integer(value[0]) or not is_integer(value[1]) or value[0] < 1 or value[1] < 1:
        return False
    return gcd(value[0], value[1]) == 1


def shared_denominator(fractions):
    """The least denominator that some fractions can be written with."""
    shared = 1
    for fraction in fractions:
        shared = lcm(shared, fraction[1])
    return shared


def check_odds(plant, value):
    """Raise NoOdds for any value that is no odds of a plant."""
    if not isinstance(value, dict):
        raise NoOdds("odds are a dict")
    names = [name for name, _ in plant.parts]
    if not all([is_event(key, names) for key in value]):
        raise NoOdds("a key is no event of a part of the plant")
    if not all([is_chance(value[key]) for key in value]):
        raise NoOdds("a chance is no fraction above 0 in lowest terms")
    whole = shared_denominator(list(value.values()))
    if sum([value[key][0] * (whole // value[key][1]) for key in value]) > whole:
        raise NoOdds("the sum of the chances is above 1")


def check_count(value):
    """Raise NoNumber for any value that is no integer from 0."""
    if not is_integer(value) or value < 0:
        raise NoNumber(value)


def lowest(numerator, denominator):
    """A fraction in lowest terms; the denominator is positive."""
    common = gcd(numerator, denominator)
    return numerator // common, denominator // common


def drawn_rows(plant, odds):
    """What draws can come to until the first stop, as rows of a machine; those that have stopped lead nowhere."""
    steps = Steps(plant)

    def onward(state):
        """The events that can be drawn in a state and are possible."""
        if steps.has_stopped(state):
            return {}
        return {event: behind for event, behind in steps.by_event(state).items() if event in odds}

    states = list(walked(steps.start(), onward, None))
    return smallest_rows(rows_of(states, onward, steps.has_stopped))


def weights_of(odds, whole):
    """The weights of the events, out of a whole."""
    return {event: odds[event][0] * (whole // odds[event][1]) for event in odds}


def drawn(rows, now, weights, whole):
    """The weights of the rows behind one draw more, whole times as large, and those of the stops by it."""
    later = {}
    by_event = {}
    for index, weight in now.items():
        left = whole
        for event, behind in rows[index][1]:
            left -= weights[event]
            worth = weight * weights[event]
            if rows[behind][0]:
                by_event[event] = by_event.get(event, 0) + worth
            else:
                later[behind] = later.get(behind, 0) + worth
        later[index] = later.get(index, 0) + weight * left
    return later, by_event


def first_stops(plant, odds, count):
    """A dict from events to the weights of the first stops by them within count draws, and the weight of all."""
    rows = drawn_rows(plant, odds)
    whole = shared_denominator(list(odds.values()))
    weights = weights_of(odds, whole)
    now = {0: 1}
    total = 1
    found = {event: 0 for event in sorted(odds)}
    for _ in range(count):
        now, by_event = drawn(rows, now, weights, whole)
        found = {event: found[event] * whole + by_event.get(event, 0) for event in found}
        total = total * whole
    return found, total


def chance(plant, odds, count):
    """The chance that a plant has stopped at least once within count draws."""
    check_odds(plant, odds)
    check_count(count)
    found, total = first_stops(plant, odds, count)
    return lowest(sum(list(found.values())), total)


def shares(plant, odds, count):
    """A dict from events to the chances that the first stop is within count draws and by this event."""
    check_odds(plant, odds)
    check_count(count)
    found, total = first_stops(plant, odds, count)
    return {event: lowest(found[event], total) for event in found if found[event]}


def is_sure(rows):
    """Whether a stop can be reached from each of some rows."""
    sure = {index: True for index in range(len(rows)) if rows[index][0]}
    before = -1
    while len(sure) > before:
        before = len(sure)
        for index, row in enumerate(rows):
            if any([behind in sure for _, behind in row[1]]):
                sure[index] = True
    return len(sure) == len(rows)


def equations(rows, weights, whole):
    """For each row that has not stopped an equation for its mean; row 0 comes last.

    It is the list of the factors of the means, in the order of the equations, and of the right side behind them.
    """
    unknown = [index for index in reversed(range(len(rows))) if not rows[index][0]]
    table = []
    for index in unknown:
        factors = {other: 0 for other in unknown}
        for event, behind in rows[index][1]:
            factors[index] += weights[event]
            if not rows[behind][0]:
                factors[behind] -= weights[event]
        table.append([factors[other] for other in unknown] + [whole])
    return table


def last_unknown(table):
    """The last unknown of equations.

    Each division comes out even, as in Bareiss's way to work out determinants. No factor that it divides by is 0:
    in no equation the other factors outweigh that of its own unknown, and a stop can be reached from each row.
    """
    divisor = 1
    for at in range(len(table) - 1):
        top = table[at]
        for below in range(at + 1, len(table)):
            row = table[below]
            rest = range(at + 1, len(row))
            table[below] = [0] * (at + 1) + [(top[at] * row[k] - row[at] * top[k]) // divisor for k in rest]
        divisor = top[at]
    return lowest(table[-1][-1], table[-1][-2])


def mean(plant, odds):
    """The mean number of draws up to the first stop, or None if the chance that it ever stops is below 1."""
    check_odds(plant, odds)
    rows = drawn_rows(plant, odds)
    if not is_sure(rows):
        return None
    whole = shared_denominator(list(odds.values()))
    return last_unknown(equations(rows, weights_of(odds, whole), whole))
