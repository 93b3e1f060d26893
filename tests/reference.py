"""Answers for small plants that are worked out by playing rows with the second model, one by one from the beginning.

Nothing here is taken from the program: `values` are the four values that a plant is made of.
"""

import itertools

from tests.model import Model


def led_on(model, event):
    """Another model behind one event more, or None if it is not possible."""
    if event not in model.possible():
        return None
    model = model.twin()
    model.do(event)
    return model


def led(values, row):
    """The model behind a row, or None if it is none."""
    model = Model(*values)
    for event in row:
        if model is not None:
            model = led_on(model, event)
    return model


def has_stopped(model):
    return model.is_true(model.top)


class Graph:
    """All states that rows lead to, in the order of the least rows to them, and what follows from each."""

    def __init__(self, values, mends=True, on_behind_stops=True):
        self.rows = {}
        self.steps = {}
        self.stopped = {}
        self.truths = {}
        waiting = [((), Model(*values))]
        for row, model in waiting:
            state = model.state()
            if state in self.rows:
                continue
            self.rows[state] = row
            self.stopped[state] = has_stopped(model)
            self.truths[state] = model.truths()
            self.steps[state] = {}
            if self.stopped[state] and not on_behind_stops:
                continue
            for event in model.possible():
                if mends or event[0] == "fail":
                    behind = led_on(model, event)
                    self.steps[state][event] = behind.state()
                    waiting.append((row + (event,), behind))

    def start(self):
        return next(iter(self.rows))


def failures(parts):
    return tuple([("fail", part) for part in parts])


def sequences(values):
    """All tuples of parts whose failures are a row, with the models behind them, by length, then ascending."""
    names = sorted(name for name, _ in values[0])
    found = {}
    for many in range(len(names) + 1):
        for parts in itertools.permutations(names, many):
            model = led(values, failures(parts)) if not parts or parts[:-1] in found else None
            if model is not None:
                found[parts] = model
    return found


def orders(values):
    found = sequences(values)
    return [parts for parts in found if has_stopped(found[parts])
            and not any(has_stopped(found[parts[:many]]) for many in range(len(parts)))]


def least_orders(values):
    models = sequences(values)
    found = []
    for parts in orders(values):
        shorter = [less for many in range(len(parts)) for less in itertools.combinations(parts, many)]
        if not any(less in models and has_stopped(models[less]) for less in shorter):
            found.append(parts)
    return found


def stops(values):
    found = {}
    for parts, model in sequences(values).items():
        found.setdefault(tuple(sorted(parts)), []).append(has_stopped(model))
    words = {(True,): "always", (False,): "never", (False, True): "sometimes"}
    return {parts: words[tuple(sorted(set(found[parts])))] for parts in sorted(found)}


def longer_by_one(values):
    """All pairs of tuples of parts whose failures are rows, the second one with one part more somewhere."""
    models = sequences(values)
    for longer in models:
        for at in range(len(longer)):
            shorter = longer[:at] + longer[at + 1:]
            if shorter in models:
                yield shorter, longer, models[shorter], models[longer]


def steady(values):
    """("steady", set of the pairs of states), or ("saved", the least length of the first tuple)."""
    pairs, saved = set(), []
    for shorter, _, one, other in longer_by_one(values):
        pairs.add((one.state(), other.state()))
        if has_stopped(one) and not has_stopped(other):
            saved.append(len(shorter))
    return ("saved", min(saved)) if saved else ("steady", pairs)


def unlike(graph):
    """All pairs of states of a graph that are not alike, marked from short rows to long ones."""
    states = list(graph.rows)
    marked = {(one, other) for one in states for other in states
              if graph.stopped[one] != graph.stopped[other] or set(graph.steps[one]) != set(graph.steps[other])}
    while True:
        more = {(one, other) for one in states for other in states if (one, other) not in marked
                and any((graph.steps[one][event], graph.steps[other][event]) in marked for event in graph.steps[one])}
        if not more:
            return marked
        marked |= more


def compare(one, other):
    """("alike", pairs, many) or ("differ", row, many) of the values of two plants: many pairs have been counted."""
    pairs = {(Model(*one).state(), Model(*other).state())}
    waiting = [((), Model(*one), Model(*other))]
    for row, first, second in waiting:
        for event in sorted(set(first.possible()) | set(second.possible())):
            behind, behind_second = led_on(first, event), led_on(second, event)
            if told(behind) != told(behind_second):
                return "differ", row + (event,), len(pairs)
            pair = (behind.state(), behind_second.state())
            if pair not in pairs:
                pairs.add(pair)
                waiting.append((row + (event,), behind, behind_second))
    return "alike", pairs, len(pairs)


def told(model):
    """Whether it has stopped, None if there is none."""
    return None if model is None else has_stopped(model)


def differ(one, other, row):
    """Whether just one allows the last event of a row, or has stopped behind it; both allow the others alike."""
    return told(led(one, row)) != told(led(other, row))


def all_rows(values, length):
    """All rows up to a length, by length, then ascending, with the models behind them."""
    line = [((), Model(*values))]
    for _ in range(length + 1):
        yield from line
        line = [(row + (event,), led_on(model, event)) for row, model in line for event in model.possible()]
