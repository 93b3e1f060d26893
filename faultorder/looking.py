"""Looking: inspections, which tell by as few looks as possible whether a plant is in danger."""

from faultorder.runs import truths_in
from faultorder.states import Steps
from faultorder.watching import check_sensors, shown


def is_last(steps, state):
    """Whether some failure stops a plant at once, from a state in which it has not stopped."""
    return any([steps.has_stopped(behind) for behind in steps.failures(state).values()])


class Looks:
    """Inspections of some names, each worked out once: cases is a dict from truths of them to dangers."""

    def __init__(self, names, cases):
        self._names = names
        self._cases = cases
        self._known = {}

    def least(self, looked):
        """The pair (depth, inspection) of the least depth behind some looks: for each name its truth or None."""
        if looked not in self._known:
            self._known[looked] = self._worked_out(looked)
        return self._known[looked]

    def _worked_out(self, looked):
        told = [danger for truths, danger in self._cases.items() if fits(truths, looked)]
        if all(told) or not any(told):
            return 0, ("danger", any(told))
        found = []
        for at, name in enumerate(self._names):
            if looked[at] is None:
                one = self.least(looked[:at] + (False,) + looked[at + 1:])
                other = self.least(looked[:at] + (True,) + looked[at + 1:])
                found.append((1 + max(one[0], other[0]), ("look", name, one[1], other[1])))
        return min(found, key=lambda choice: choice[0])


def fits(truths, looked):
    """Whether truths are those that were told by looks, None where there was none."""
    return all([look is None or look == truth for truth, look in zip(truths, looked)])


def cases_of(plant, states, names):
    """A dict from the truths of names in some states to whether these are in danger, None if the truths do not tell."""
    steps = Steps(plant)
    cases = {}
    for state in states:
        danger = is_last(steps, state)
        if cases.setdefault(shown(names, truths_in(plant, state)), danger) != danger:
            return None
    return cases


def inspect(plant, states, names):
    """An inspection of names that is right for a list of states, of the least depth, or None if there is none."""
    check_sensors(plant, names)
    cases = cases_of(plant, states, names)
    if cases is None:
        return None
    return Looks(names, cases).least((None,) * len(names))[1]


def is_right(value, names, cases):
    """Whether any value is an inspection of names that is right for some cases: pairs of truths and dangers."""
    if not isinstance(value, tuple) or len(value) not in (2, 4):
        return False
    if len(value) == 2:
        right = all([danger == value[1] for _, danger in cases])
        return value[0] == "danger" and isinstance(value[1], bool) and right
    word, name, one, other = value
    if word != "look" or name not in names:
        return False
    # The form is asked for on all paths, also where no case comes to.
    return (is_right(one, names, [case for case in cases if not case[0][name]])
            and is_right(other, names, [case for case in cases if case[0][name]]))


def is_inspection(plant, states, names, value):
    """Whether any value is an inspection of names that is right for a list of states."""
    check_sensors(plant, names)
    steps = Steps(plant)
    return is_right(value, names, [(truths_in(plant, state), is_last(steps, state)) for state in states])


def depth(value):
    """The depth of an inspection."""
    if value[0] == "danger":
        return 0
    return 1 + max(depth(value[2]), depth(value[3]))
