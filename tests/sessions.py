"""A second model of sessions: all is told by playing the operations that stand anew, from the first plant on."""

from faultorder.errors import BadPlant
from faultorder.plants import Plant
from tests.model import Model

NOT_POSSIBLE = "not possible"


class Session:
    """Nothing but the first plant's values, the operations that stand, and those that were taken back."""

    def __init__(self, values):
        self.values = tuple(values)
        self.log = []
        self.taken_back = []
        self.entries = []

    def played(self):
        """(values of the plant now, model, result of the last operation), NOT_POSSIBLE if one cannot be done."""
        parts, gates, causes, top = self.values
        model, result = Model(*self.values), None
        for operation in self.log:
            word, result = operation[0], None
            if word == "event":
                if operation[1] not in model.possible():
                    return NOT_POSSIBLE
                result = model.do(operation[1])
                continue
            if word == "cause":
                causes = tuple(causes) + (operation[1:],)
            if word == "top":
                top = operation[1]
            try:
                Plant(parts, gates, causes, top)
            except BadPlant:
                return NOT_POSSIBLE
            model = Model(parts, gates, causes, top)
        return (parts, gates, causes, top), model, result

    def do(self, operation):
        self.log.append(operation)
        played = self.played()
        if played == NOT_POSSIBLE:
            self.log.pop()
            return NOT_POSSIBLE
        self.taken_back = []
        self.entries.append(("done", operation, played[2]))
        return played[2]

    def undo(self):
        if not self.log:
            return NOT_POSSIBLE
        self.taken_back.append(self.log.pop())
        self.entries.append(("undone",))
        return None

    def redo(self):
        if not self.taken_back:
            return NOT_POSSIBLE
        self.log.append(self.taken_back.pop())
        self.entries.append(("redone",))
        return None

    def plant(self):
        return Plant(*self.played()[0])

    def model(self):
        return self.played()[1]


def some_operation(choices, values, model):
    """An operation that may be done, or perhaps not; most can be."""
    parts = [name for name, _ in values[0]]
    names = parts + [gate[0] for gate in values[1]]
    word = choices.one(["event"] * 8 + ["cause", "cause", "top", "top", "begin"])
    if word == "event":
        able = model.possible()
        wrong = (choices.one(["fail", "mend"]), choices.one(names))
        return ("event", wrong if not able or choices.below(8) == 0 else choices.one(able))
    if word == "cause":
        return ("cause", choices.one(names), choices.some(parts + ["zz"] if choices.below(8) == 0 else parts, 3))
    if word == "top":
        return ("top", choices.one(names))
    return ("begin",)
