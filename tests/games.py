"""Games of crews that are worked out by the second model, and checkers that walk plans and attacks by it.

Nothing here is taken from the program: `values` are the four values that a plant is made of.
"""

import itertools

from tests.reference import Graph, shows
from tests.model import Model


def is_number(value):
    return type(value) is int and value >= 0


GRAPHS = {}


def graph_of(values):
    """The graph of a plant, played once."""
    key = repr(values)
    if key not in GRAPHS:
        GRAPHS.clear()
        GRAPHS[key] = Graph(values)
    return GRAPHS[key]


class Table:
    """All states of a plant, what follows from each, and what sensors show there."""

    def __init__(self, values, sensors=()):
        graph = graph_of(values)
        self.first = Model(*values).state()
        self.parts = sorted(name for name, _ in values[0])
        self.stopped = graph.stopped
        self.steps = graph.steps
        self.shown = {state: tuple([graph.truths[state][name] for name in sensors]) for state in graph.rows}

    def failures(self, state):
        return {event[1]: behind for event, behind in self.steps[state].items() if event[0] == "fail"}

    def mended(self, state, part):
        return self.steps[state].get(("mend", part))

    def is_last(self, state):
        return any(self.stopped[behind] for behind in self.failures(state).values())


def all_answers(parts, crew):
    """All tuples of at most so many different ones of the parts."""
    return [answer for many in range(min(crew, len(parts)) + 1) for answer in itertools.permutations(parts, many)]


def led_by(table, state, answer):
    """The state behind an answer of failed parts."""
    for part in answer:
        state = table.mended(state, part)
    return state


def lost(values, crew, mendable):
    """A dict from the states in which a crew that sees all loses to the number of failures that this takes."""
    table = Table(values)
    going = [state for state in table.steps if not table.stopped[state]]
    behind_answers = {}
    for state in going:
        parts = [part for part in state[0] if part in mendable]
        behind_answers[state] = {led_by(table, state, answer) for answer in all_answers(parts, crew)}
    found = {}
    for number in itertools.count(1):
        more = [state for state in going if state not in found
                and any(table.stopped[after] or all(behind in found for behind in behind_answers[after])
                        for after in table.failures(state).values())]
        if not more:
            return found
        found.update({state: number for state in more})


def lasts(values, crew, mendable):
    return lost(values, crew, mendable).get(Model(*values).state())


def is_plan(values, crew, mendable, plan):
    """Whether a dict is a plan, walked state by state."""
    table = Table(values)
    keys, line = set(), [table.first]
    for state in line:
        for part, after in table.failures(state).items():
            answers = all_answers([failed for failed in after[0] if failed in mendable], crew)
            if table.stopped[after] or plan.get((state, part)) not in answers:
                return False
            if (state, part) not in keys:
                keys.add((state, part))
                line.append(led_by(table, after, plan[state, part]))
    return keys == set(plan)


def is_attack(values, crew, mendable, attack):
    """Whether a dict is an attack, walked state by state."""
    table = Table(values)
    if table.first not in attack:
        return False
    line = [table.first]
    for state in line:
        rank, part = attack[state]
        if not is_number(rank) or part not in table.failures(state):
            return False
        after = table.failures(state)[part]
        if not table.stopped[after]:
            for answer in all_answers([failed for failed in after[0] if failed in mendable], crew):
                behind = led_by(table, after, answer)
                if behind not in attack or attack[behind][0] >= rank:
                    return False
                if behind not in line:
                    line.append(behind)
    return set(line) == set(attack)


class Knowing:
    """What a blind crew knows: sets of states, and where they lead."""

    def __init__(self, values, sensors, crew, mendable):
        self.table = Table(values, sensors)
        self.first = frozenset([self.table.first])
        self.answers = all_answers([part for part in self.table.parts if part in mendable], crew)

    def is_last(self, known):
        return any(self.table.is_last(state) for state in known)

    def shown(self, known):
        """A dict from what can be shown behind a failure to the states that show it."""
        found = {}
        for state in known:
            for after in self.table.failures(state).values():
                found.setdefault(self.table.shown[after], set()).add(after)
        return found

    def answered(self, states, answer):
        for part in answer:
            states = {self.table.mended(state, part) or state for state in states}
        return frozenset(states)

    def onward(self, known):
        """A dict from what can be shown to the set of all knowledges that answers lead to."""
        return {show: {self.answered(states, answer) for answer in self.answers}
                for show, states in self.shown(known).items()}

    def everything(self):
        """A dict from all knowledges to what onward says of them, None for those that a failure ends."""
        found = {}
        line = [self.first]
        while line:
            known = line.pop()
            if known not in found:
                found[known] = None if self.is_last(known) else self.onward(known)
                for behind in (found[known] or {}).values():
                    line.extend(behind)
        return found


def blind_lasts(everything, first):
    """The number of failures by which a blind crew has lost, None if it keeps the plant."""
    found = {known: 1 for known, onward in everything.items() if onward is None}
    for number in itertools.count(2):
        more = [known for known, onward in everything.items() if known not in found
                and any(all(behind in found for behind in behind_all) for behind_all in onward.values())]
        if not more:
            return found.get(first)
        found.update({known: number for known in more})


def is_tuple_of(known):
    return tuple(sorted(known))


def is_blind_plan(knowing, plan):
    keys, line = set(), [knowing.first]
    for known in line:
        if knowing.is_last(known):
            return False
        for show, states in knowing.shown(known).items():
            key = (is_tuple_of(known), show)
            if key not in plan or plan[key] not in knowing.answers:
                return False
            if key not in keys:
                keys.add(key)
                line.append(knowing.answered(states, plan[key]))
    return keys == set(plan)


def is_blind_attack(knowing, attack):
    line = [knowing.first]
    if is_tuple_of(knowing.first) not in attack:
        return False
    for known in line:
        rank, show = attack[is_tuple_of(known)]
        if knowing.is_last(known):
            if type(rank) is not int or (rank, show) != (0, None):
                return False
            continue
        if not is_number(rank) or rank == 0 or show not in knowing.shown(known):
            return False
        for behind in knowing.onward(known)[show]:
            if is_tuple_of(behind) not in attack or attack[is_tuple_of(behind)][0] >= rank:
                return False
            if behind not in line:
                line.append(behind)
    return {is_tuple_of(known) for known in line} == set(attack)


def explaining(values, sensors, record):
    """A dict from the states that rows lead to of which a record is seen, and which never stop, to the least rows."""
    start = Model(*values)
    line = [((), start, (shows(start, sensors),))]
    known, found = set(), {}
    for row, model, told in line:
        if told != record[:len(told)] or (model.state(), told) in known or model.is_true(model.top):
            continue
        known.add((model.state(), told))
        if told == record:
            found.setdefault(model.state(), row)
        for event in model.possible():
            behind = model.twin()
            behind.do(event)
            now = shows(behind, sensors)
            line.append((row + (event,), behind, told if now == told[-1] else told + (now,)))
    return found


def least_depth(cases, names):
    """The least depth of an inspection for pairs (truths, danger), None if there is none."""
    def is_enough(left, number):
        if len({danger for _, danger in left}) < 2:
            return True
        return number > 0 and any(
            all(is_enough([case for case in left if case[0][name] is truth], number - 1) for truth in (False, True))
            for name in names)
    return next((number for number in range(len(names) + 1) if is_enough(cases, number)), None)
