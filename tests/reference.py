"""Answers for small plants that are worked out by playing rows with the second model, one by one from the beginning.

Nothing here is taken from the program: `values` are the four values that a plant is made of.
"""

import itertools
from fractions import Fraction

from tests.model import Model


def led_on(model, event):
    """Another model behind one event more, or None if it is not possible."""
    if event not in model.possible():
        return None
    model = model.twin()
    model.do(event)
    return model


def led(values, row):
    """The model behind a row, or None if it is none."""
    model = Model(*values)
    for event in row:
        if model is not None:
            model = led_on(model, event)
    return model


def has_stopped(model):
    return model.is_true(model.top)


class Graph:
    """All states that rows lead to, in the order of the least rows to them, and what follows from each."""

    def __init__(self, values, mends=True, on_behind_stops=True):
        self.rows = {}
        self.steps = {}
        self.stopped = {}
        self.truths = {}
        waiting = [((), Model(*values))]
        for row, model in waiting:
            state = model.state()
            if state in self.rows:
                continue
            self.rows[state] = row
            self.stopped[state] = has_stopped(model)
            self.truths[state] = model.truths()
            self.steps[state] = {}
            if self.stopped[state] and not on_behind_stops:
                continue
            for event in model.possible():
                if mends or event[0] == "fail":
                    behind = led_on(model, event)
                    self.steps[state][event] = behind.state()
                    waiting.append((row + (event,), behind))

    def start(self):
        return next(iter(self.rows))


def failures(parts):
    return tuple([("fail", part) for part in parts])


def sequences(values):
    """All tuples of parts whose failures are a row, with the models behind them, by length, then ascending."""
    names = sorted(name for name, _ in values[0])
    found = {}
    for many in range(len(names) + 1):
        for parts in itertools.permutations(names, many):
            model = led(values, failures(parts)) if not parts or parts[:-1] in found else None
            if model is not None:
                found[parts] = model
    return found


def orders(values):
    found = sequences(values)
    return [parts for parts in found if has_stopped(found[parts])
            and not any(has_stopped(found[parts[:many]]) for many in range(len(parts)))]


def least_orders(values):
    models = sequences(values)
    found = []
    for parts in orders(values):
        shorter = [less for many in range(len(parts)) for less in itertools.combinations(parts, many)]
        if not any(less in models and has_stopped(models[less]) for less in shorter):
            found.append(parts)
    return found


def stops(values):
    found = {}
    for parts, model in sequences(values).items():
        found.setdefault(tuple(sorted(parts)), []).append(has_stopped(model))
    words = {(True,): "always", (False,): "never", (False, True): "sometimes"}
    return {parts: words[tuple(sorted(set(found[parts])))] for parts in sorted(found)}


def longer_by_one(values):
    """All pairs of tuples of parts whose failures are rows, the second one with one part more somewhere."""
    models = sequences(values)
    for longer in models:
        for at in range(len(longer)):
            shorter = longer[:at] + longer[at + 1:]
            if shorter in models:
                yield shorter, longer, models[shorter], models[longer]


def steady(values):
    """("steady", set of the pairs of states), or ("saved", the least length of the first tuple)."""
    pairs, saved = set(), []
    for shorter, _, one, other in longer_by_one(values):
        pairs.add((one.state(), other.state()))
        if has_stopped(one) and not has_stopped(other):
            saved.append(len(shorter))
    return ("saved", min(saved)) if saved else ("steady", pairs)


def unlike(graph):
    """All pairs of states of a graph that are not alike, marked from short rows to long ones."""
    states = list(graph.rows)
    marked = {(one, other) for one in states for other in states
              if graph.stopped[one] != graph.stopped[other] or set(graph.steps[one]) != set(graph.steps[other])}
    while True:
        more = {(one, other) for one in states for other in states if (one, other) not in marked
                and any((graph.steps[one][event], graph.steps[other][event]) in marked for event in graph.steps[one])}
        if not more:
            return marked
        marked |= more


def compare(one, other):
    """("alike", pairs, many) or ("differ", row, many) of the values of two plants: many pairs have been counted."""
    pairs = {(Model(*one).state(), Model(*other).state())}
    waiting = [((), Model(*one), Model(*other))]
    for row, first, second in waiting:
        for event in sorted(set(first.possible()) | set(second.possible())):
            behind, behind_second = led_on(first, event), led_on(second, event)
            if told(behind) != told(behind_second):
                return "differ", row + (event,), len(pairs)
            pair = (behind.state(), behind_second.state())
            if pair not in pairs:
                pairs.add(pair)
                waiting.append((row + (event,), behind, behind_second))
    return "alike", pairs, len(pairs)


def told(model):
    """Whether it has stopped, None if there is none."""
    return None if model is None else has_stopped(model)


def differ(one, other, row):
    """Whether just one allows the last event of a row, or has stopped behind it; both allow the others alike."""
    return told(led(one, row)) != told(led(other, row))


def all_rows(values, length):
    """All rows up to a length, by length, then ascending, with the models behind them."""
    line = [((), Model(*values))]
    for _ in range(length + 1):
        yield from line
        line = [(row + (event,), led_on(model, event)) for row, model in line for event in model.possible()]


def apart(values):
    """A dict from the pairs of parts that do not commute to the least tuples of parts ahead of that."""
    graph = Graph(values)
    marked = unlike(graph)
    found = {}
    for parts, model in sequences(values).items():
        able = [part for word, part in model.possible() if word == "fail"]
        for pair in itertools.combinations(sorted(able), 2):
            if pair not in found and not commute_behind(values, marked, parts, pair):
                found[pair] = parts
    return found


def commute_behind(values, marked, parts, pair):
    both = [led(values, failures(parts + order)) for order in (pair, pair[::-1])]
    if both == [None, None]:
        both = [led(values, failures(parts + (part,))) for part in pair]
    return None not in both and (both[0].state(), both[1].state()) not in marked


def distance(model):
    """The least number of failures that stop a plant."""
    line = [model]
    for number in range(10):
        if any(has_stopped(model) for model in line):
            return number
        line = [led_on(model, event) for model in line for event in model.possible() if event[0] == "fail"]
    return None


def harmful(values):
    infinite = 1000
    for row in Graph(values).rows.values():
        model = led(values, row)
        before = distance(model)
        for event in model.possible():
            if event[0] == "mend":
                now = distance(led_on(model, event))
                if (infinite if now is None else now) < (infinite if before is None else before):
                    return row, event[1]
    return None


def saving(values):
    found = []
    for order in least_orders(values):
        for part in sorted(name for name, _ in values[0]):
            model = led(values, failures((part,) + order)) if part not in order else None
            if model is not None and not has_stopped(model):
                found.append((order, part))
    return found


def drawn(values, odds, count):
    """The chances (Fractions) of the first stop by each event, summed up over all rows of draws."""
    found = {}
    nothing = 1 - sum(odds.values())
    line = [(1, Model(*values))]
    for _ in range(count):
        longer = []
        for chance, model in line:
            longer.append((chance * nothing, model))
            for event, worth in odds.items():
                behind = led_on(model, event)
                if behind is None:
                    longer.append((chance * worth, model))
                elif has_stopped(behind):
                    found[event] = found.get(event, 0) + chance * worth
                else:
                    longer.append((chance * worth, behind))
        line = longer
    return {event: found[event] for event in sorted(found) if found[event]}


def mean(values, odds):
    """The mean number of draws up to the first stop: the solution of one equation for each state."""
    graph = Graph(values)
    steps = {state: {event: behind for event, behind in graph.steps[state].items() if event in odds}
             for state in graph.rows}
    states = [graph.start()]
    for state in states:
        if not graph.stopped[state]:
            states.extend(sorted({behind for behind in steps[state].values() if behind not in states}))
    sure = {state for state in states if graph.stopped[state]}
    for _ in states:
        sure |= {state for state in states if any(behind in sure for behind in steps[state].values())}
    if sure != set(states):
        return None
    going = [state for state in states if not graph.stopped[state]]
    table = [[equation_factor(graph, steps, odds, state, other) for other in going] + [Fraction(1)] for state in going]
    return solved(table)[0]


def equation_factor(graph, steps, odds, state, other):
    factor = sum((odds[event] for event in steps[state]), Fraction(0)) if state == other else Fraction(0)
    return factor - sum((odds[event] for event, behind in steps[state].items() if behind == other), Fraction(0))


def solved(table):
    """The solution of equations, by making all other factors of a column 0."""
    for at in range(len(table)):
        best = next(k for k in range(at, len(table)) if table[k][at])
        table[at], table[best] = table[best], table[at]
        table[at] = [value / table[at][at] for value in table[at]]
        for other in range(len(table)):
            if other != at and table[other][at]:
                table[other] = [value - table[other][at] * lead for value, lead in zip(table[other], table[at])]
    return [row[-1] for row in table]


def seen(values, sensors, row):
    """What is seen of a row."""
    shown = [shows(led(values, row[:many]), sensors) for many in range(len(row) + 1)]
    return tuple([show for at, show in enumerate(shown) if at == 0 or show != shown[at - 1]])


def is_near(model, ahead):
    return not has_stopped(model) and distance(model) is not None and distance(model) <= ahead


def looking_same(values, sensors, length):
    """For the rows up to a length that never stop: (state, state) to the least number of events of two that look so.

    Of rows to the same state of which the same is seen only the first one goes on.
    """
    by_seen = {}
    line = [(0, Model(*values), (shows(Model(*values), sensors),))]
    for many, model, told_so_far in line:
        states = by_seen.setdefault(told_so_far, {})
        if model.state() in states:
            continue
        states[model.state()] = many
        for event in model.possible() if many < length else []:
            behind = led_on(model, event)
            if not has_stopped(behind):
                now = shows(behind, sensors)
                line.append((many + 1, behind, told_so_far + (now,) if now != told_so_far[-1] else told_so_far))
    found = {}
    for states in by_seen.values():
        for one in states:
            for other in states:
                many = states[one] + states[other]
                found[one, other] = min(many, found.get((one, other), many))
    return found


def shows(model, sensors):
    truths = model.truths()
    return tuple([truths[name] for name in sensors])


def missed(values, pairs, ahead):
    """The least number of events of two rows of which only the first one leads right ahead of a stop, or None."""
    graph = Graph(values)
    models = {state: led(values, graph.rows[state]) for state in graph.rows}
    near = {state: (is_near(models[state], 1), is_near(models[state], ahead)) for state in models}
    return min([many for (one, other), many in pairs.items() if near[one][0] and not near[other][1]], default=None)
