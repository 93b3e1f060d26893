"""Blind crews: whether a crew that sees only what sensors show keeps a plant going for ever."""

from faultorder.explaining import Shows, are_truths
from faultorder.looking import is_last
from faultorder.mending import (answered, check_crew, check_mendable, is_attack_in, is_plan_in, parts_to_mend,
                                positions_in, ranks_in, solved)
from faultorder.plants import all_differ
from faultorder.states import Steps
from faultorder.watching import check_sensors, least_choices


class BlindRepairs:
    """The game of a crew that sees what sensors show: its positions are its knowledges ahead of a failure."""

    def __init__(self, steps, shows, crew, parts):
        self._steps = steps
        self._shows = shows
        self._crew = crew
        self._parts = parts
        self._choices = {}
        self._answers = {}

    def start(self):
        """The knowledge of the beginning."""
        return (self._steps.start(),)

    def is_lost(self, states):
        """Whether some failure stops the plant at once, in one of the states of a knowledge."""
        return any([is_last(self._steps, state) for state in states])

    def choices(self, states):
        """A dict from the tuples that can be shown behind a failure, ascending, to the states that show them."""
        if states not in self._choices:
            found = {}
            for state in states:
                for after in self._steps.failures(state).values():
                    found.setdefault(self._shows.shown_in(after), {})[after] = True
            self._choices[states] = {show: tuple(sorted(found[show])) for show in sorted(found)}
        return self._choices[states]

    def last_move(self, states):
        """What stands in an attack where some failure stops the plant at once."""
        return None

    def answers(self, after):
        """A dict from all knowledges that answers lead to, to the least such answers."""
        if after not in self._answers:
            self._answers[after] = answered(after, self._mends, self._crew)
        return self._answers[after]

    def answer(self, after, value):
        """The knowledge that any value leads to as an answer, None if it is no answer."""
        if not isinstance(value, tuple) or len(value) > self._crew or not all_differ(value):
            return None
        states = after
        for part in value:
            if part not in self._parts:
                return None
            states = self._mended(states, part)
        return states

    def forced(self, states, entry):
        """The positions that the entry of an attack leads to by all answers, None if it is not right by itself."""
        rank, show = entry
        if self.is_lost(states):
            return [] if rank == 0 and show is None else None
        # A rank of 0 is refused by what it leads to: there is an answer always, and no lesser rank.
        if not are_truths(show) or show not in self.choices(states):
            return None
        return list(self.answers(self.choices(states)[show]))

    def _mends(self, states):
        return {part: self._mended(states, part) for part in self._parts}

    def _mended(self, states, part):
        return tuple(sorted({self._mended_state(state, part) for state in states}))

    def _mended_state(self, state, part):
        # The mend of a part that works does nothing.
        return self._steps.by_event(state).get(("mend", part), state)


def blind_game(plant, sensors, crew, mendable):
    """The game of a blind crew, all being checked."""
    check_sensors(plant, sensors)
    check_crew(crew)
    check_mendable(plant, mendable)
    return BlindRepairs(Steps(plant), Shows(plant, sensors), crew, parts_to_mend(plant, mendable))


def blind(plant, sensors, crew, *, mendable=None, most=2000):
    """("kept", blind plan) if a blind crew keeps the plant going, else ("lost", blind attack)."""
    return solved(blind_game(plant, sensors, crew, mendable), most)


def is_blind_plan(plant, sensors, crew, mendable, value):
    """Whether any value is a blind plan for a crew."""
    # Keys with 1 and 0 for truths are equal to those of a plan, but are none.
    game = blind_game(plant, sensors, crew, mendable)
    return is_plan_in(game, value) and all([are_truths(show) for _, show in value])


def is_blind_attack(plant, sensors, crew, mendable, value):
    """Whether any value is a blind attack on a crew."""
    return is_attack_in(blind_game(plant, sensors, crew, mendable), value)


def least_eyes(plant, names, crew, *, most=2000):
    """The list of all least ascending tuples of names with which, as sensors, a blind crew keeps the plant."""
    check_sensors(plant, names)
    check_crew(crew)
    steps = Steps(plant)
    parts = parts_to_mend(plant, None)

    def is_enough(sensors):
        """Whether a blind crew keeps the plant with these sensors."""
        game = BlindRepairs(steps, Shows(plant, sensors), crew, parts)
        return game.start() not in ranks_in(game, positions_in(game, most))

    return least_choices(names, is_enough)
