"""Mending: whether a crew that answers each failure keeps a plant going for ever."""

from faultorder.errors import NoNumber, NoPart
from faultorder.looking import is_last
from faultorder.plants import is_integer, is_list
from faultorder.states import Steps, walked
from faultorder.watching import least_choices


def check_crew(value):
    """Raise NoNumber for any value that is no integer from 0."""
    if not is_integer(value) or value < 0:
        raise NoNumber(value)


def check_mendable(plant, value):
    """Raise NoPart for any value that is neither None nor a list of different names of parts."""
    if value is None:
        return
    if not is_list(value):
        raise NoPart(0)
    names = [name for name, _ in plant.parts]
    for index, item in enumerate(value):
        if item not in names or item in value[:index]:
            raise NoPart(index)


def parts_to_mend(plant, mendable):
    """The ascending list of the names of the parts that are mendable."""
    return sorted([name for name, _ in plant.parts] if mendable is None else mendable)


def answered(start, mends, crew):
    """A dict from all that at most so many mends make of something, to the least answers that do so.

    mends(value) is a dict from parts, ascending, to what their mends make of a value.
    """
    found = {start: ()}
    line = [start]
    while line and len(found[line[0]]) < crew:
        next_line = []
        for value in line:
            for part, mended in mends(value).items():
                if mended not in found:
                    found[mended] = found[value] + (part,)
                    next_line.append(mended)
        line = next_line
    return found


class Repairs:
    """The game of a crew that sees all: its positions are the states ahead of a failure."""

    def __init__(self, steps, crew, parts):
        self._steps = steps
        self._crew = crew
        self._parts = parts
        self._answers = {}

    def start(self):
        """The position of the beginning."""
        return self._steps.start()

    def is_lost(self, state):
        """Whether some failure stops the plant at once."""
        return is_last(self._steps, state)

    def choices(self, state):
        """A dict from the parts that can fail, ascending, to the states behind their failures."""
        return {event[1]: after for event, after in self._steps.failures(state).items()}

    def last_move(self, state):
        """The least part whose failure stops the plant at once."""
        return [part for part, after in self.choices(state).items() if self._steps.has_stopped(after)][0]

    def answers(self, after):
        """A dict from all states that answers lead to behind a failure, to the least such answers."""
        if after not in self._answers:
            self._answers[after] = answered(after, self._mends, self._crew)
        return self._answers[after]

    def answer(self, after, value):
        """The state that any value leads to as an answer behind a failure, None if it is no answer."""
        if not isinstance(value, tuple) or len(value) > self._crew:
            return None
        state = after
        for part in value:
            # A part that is mended twice has not failed at the second time.
            state = self._steps.follow(state, ("mend", part)) if part in self._parts else None
            if state is None:
                return None
        return state

    def forced(self, state, entry):
        """The positions that the entry of an attack leads to by all answers, None if it is not right by itself."""
        part = entry[1]
        after = self._steps.follow(state, ("fail", part))
        if after is None:
            return None
        return [] if self._steps.has_stopped(after) else list(self.answers(after))

    def _mends(self, state):
        by_event = self._steps.by_event(state)
        return {part: by_event["mend", part] for part in self._parts if part in state[0]}


def onward_in(game, position):
    """A dict from the pairs (move, answer) to the positions that they lead to, none behind a position that is lost."""
    if game.is_lost(position):
        return {}
    found = {}
    for move, after in game.choices(position).items():
        for behind, answer in game.answers(after).items():
            found[move, answer] = behind
    return found


def positions_in(game, most):
    """The list of all positions that any moves and answers lead to."""
    return list(walked(game.start(), lambda position: onward_in(game, position), most))


class Waiting:
    """What waits behind the moves of a game: for each so many of its answers are not known to lose."""

    def __init__(self, game, positions):
        # From what is left behind a move to the positions that come to it, and from positions to what comes to them.
        self._origins = {}
        self._sources = {}
        self._left = {}
        for position in positions:
            if not game.is_lost(position):
                for after in game.choices(position).values():
                    self._origins.setdefault(after, {})[position] = True
        for after in self._origins:
            answers = game.answers(after)
            self._left[after] = len(answers)
            for position in answers:
                self._sources.setdefault(position, []).append(after)

    def lose(self, position):
        """Take it that a position loses: the list of those that now have a move all of whose answers lose."""
        found = []
        for after in self._sources.get(position, []):
            self._left[after] -= 1
            if self._left[after] == 0:
                found.extend(list(self._origins[after]))
        return found


def ranks_in(game, positions):
    """A dict from the positions in which the crew loses to their least ranks."""
    waiting = Waiting(game, positions)
    ranks = {}
    line = [position for position in positions if game.is_lost(position)]
    rank = 0
    while line:
        for position in line:
            ranks[position] = rank
        # The same position may come from several others.
        soon = {}
        for position in line:
            for earlier in waiting.lose(position):
                if earlier not in ranks:
                    soon[earlier] = True
        line = list(soon)
        rank += 1
    return ranks


def plan_in(game, ranks):
    """A plan by which no position with a rank is come to, with just the keys that it leads to."""
    plan = {}
    known = {game.start(): True}
    line = list(known)
    while line:
        position = line.pop()
        for move, after in game.choices(position).items():
            answers = game.answers(after)
            behind = [place for place in answers if place not in ranks][0]
            plan[position, move] = answers[behind]
            if behind not in known:
                known[behind] = True
                line.append(behind)
    return {key: plan[key] for key in sorted(plan)}


def losing_move(game, ranks, position):
    """The first move in a position with a rank from 1 all of whose answers lead to lesser ranks."""
    for move, after in game.choices(position).items():
        if all([behind in ranks and ranks[behind] < ranks[position] for behind in game.answers(after)]):
            return move
    return None


def attack_in(game, ranks):
    """An attack with these ranks, with just the keys that it leads to."""
    attack = {}
    line = [game.start()]
    while line:
        position = line.pop()
        if position not in attack:
            lost = ranks[position] == 0
            move = game.last_move(position) if lost else losing_move(game, ranks, position)
            attack[position] = (ranks[position], move)
            if not lost:
                line.extend(list(game.answers(game.choices(position)[move])))
    return {position: attack[position] for position in sorted(attack)}


def solved(game, most):
    """("kept", plan) or ("lost", attack) of a game."""
    ranks = ranks_in(game, positions_in(game, most))
    if game.start() in ranks:
        return "lost", attack_in(game, ranks)
    return "kept", plan_in(game, ranks)


def is_plan_in(game, value):
    """Whether any value is a plan of a game."""
    if not isinstance(value, dict):
        return False
    many = 0
    known = {game.start(): True}
    line = list(known)
    while line:
        position = line.pop()
        if game.is_lost(position):
            return False
        for move, after in game.choices(position).items():
            many += 1
            behind = game.answer(after, value[position, move]) if (position, move) in value else None
            if behind is None:
                return False
            if behind not in known:
                known[behind] = True
                line.append(behind)
    return many == len(value)


def is_entry(value):
    """Whether any value is a pair of a rank and something else."""
    return isinstance(value, tuple) and len(value) == 2 and is_integer(value[0]) and value[0] >= 0


def is_attack_in(game, value):
    """Whether any value is an attack of a game."""
    if not isinstance(value, dict) or not all([is_entry(entry) for entry in value.values()]):
        return False
    known = {game.start(): True}
    line = list(known)
    if game.start() not in value:
        return False
    while line:
        position = line.pop()
        forced = game.forced(position, value[position])
        if forced is None:
            return False
        for behind in forced:
            if behind not in value or value[behind][0] >= value[position][0]:
                return False
            if behind not in known:
                known[behind] = True
                line.append(behind)
    return len(known) == len(value)


def game_of(plant, crew, mendable):
    """The game of a crew, all being checked."""
    check_crew(crew)
    check_mendable(plant, mendable)
    return Repairs(Steps(plant), crew, parts_to_mend(plant, mendable))


def kept(plant, crew, *, mendable=None):
    """("kept", plan) if the crew keeps the plant going, else ("lost", attack)."""
    return solved(game_of(plant, crew, mendable), None)


def is_plan(plant, crew, mendable, value):
    """Whether any value is a plan for a crew."""
    return is_plan_in(game_of(plant, crew, mendable), value)


def is_attack(plant, crew, mendable, value):
    """Whether any value is an attack on a crew."""
    return is_attack_in(game_of(plant, crew, mendable), value)


def rank_at_start(game):
    """The least rank of the beginning, or None if the crew keeps the plant."""
    return ranks_in(game, positions_in(game, None)).get(game.start())


def lasts(plant, crew, *, mendable=None):
    """The number of failures behind which the crew has lost at the latest, or None if the plant is kept."""
    rank = rank_at_start(game_of(plant, crew, mendable))
    return None if rank is None else rank + 1


def least_crew(plant):
    """The least crew that keeps a plant if all parts are mendable, or None."""
    steps = Steps(plant)
    parts = parts_to_mend(plant, None)
    for crew in range(len(parts) + 1):
        if rank_at_start(Repairs(steps, crew, parts)) is None:
            return crew
    return None


def least_mendable(plant, crew):
    """The list of all least ascending tuples of mendable parts with which the crew keeps a plant."""
    check_crew(crew)
    steps = Steps(plant)
    names = parts_to_mend(plant, None)
    return least_choices(names, lambda parts: rank_at_start(Repairs(steps, crew, list(parts))) is None)
