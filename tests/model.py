"""A second model of plants, told by history, to compare the program with.

It keeps for each name by which event its present stretch of truth began, and
reads off that whether a before gate is true, instead of the truths behind the
last event. Nothing here is taken from the program.
"""


class Model:
    def __init__(self, parts, gates, causes, top):
        self.parts = list(parts)
        self.gates = {gate[0]: gate for gate in gates}
        self.causes = list(causes)
        self.top = top
        self.failed = set()
        self.uses = {gate[0]: "" for gate in gates if gate[1] == "spare"}
        self.count = 0
        self.take()
        self.began = {}
        self.began = self.stretches()

    def twin(self):
        """Another model that goes on from the same moment."""
        other = Model.__new__(Model)
        other.__dict__.update(self.__dict__)
        other.failed = set(self.failed)
        other.uses = dict(self.uses)
        return other

    def take(self):
        for name in self.uses:
            if self.uses[name] == "" or self.uses[name] in self.failed:
                others = {self.uses[other] for other in self.uses if other != name}
                self.uses[name] = ""
                for part in self.gates[name][2]:
                    if part not in self.failed and part not in others:
                        self.uses[name] = part
                        break

    def is_true(self, name):
        if name not in self.gates:
            return name in self.failed
        gate = self.gates[name]
        if gate[1] == "spare":
            return not self.uses[name]
        if gate[1] == "before":
            if not (self.is_true(gate[2]) and self.is_true(gate[3])):
                return False
            return self.began.get(gate[2], self.count) < self.began.get(gate[3], self.count)
        inputs = gate[-1]
        least = {"all": len(inputs), "any": 1, "least": gate[2]}[gate[1]]
        return sum(1 for item in inputs if self.is_true(item)) >= least

    def names(self):
        return [name for name, _ in self.parts] + list(self.gates)

    def truths(self):
        return {name: self.is_true(name) for name in sorted(self.names())}

    def stretches(self):
        return {name: self.began.get(name, self.count) for name in self.names() if self.is_true(name)}

    def state(self):
        held = [name for name in self.gates if self.gates[name][1] == "before" and self.is_true(name)]
        return tuple(sorted(self.failed)), tuple(self.uses.items()), tuple(held)

    def possible(self):
        used = set(self.uses.values())
        return ([("fail", name) for name, kind in sorted(self.parts)
                 if name not in self.failed and (kind == "hot" or name in used)]
                + [("mend", name) for name in sorted(self.failed)])

    def do(self, event):
        self.count += 1
        waiting = [event[1]]
        fallen = []
        while waiting:
            before = self.truths()
            part = waiting[0]
            if event[0] == "mend":
                self.failed.remove(part)
            else:
                self.failed.add(part)
                fallen.append(part)
            self.take()
            after = self.truths()
            waiting = waiting[1:]
            for trigger, parts in self.causes:
                if after[trigger] and not before[trigger]:
                    for part in parts:
                        if part not in self.failed and part not in waiting:
                            waiting.append(part)
            if event[0] == "mend" and waiting:
                raise AssertionError("a mend has started a cause")
        self.began = self.stretches()
        return tuple(fallen)
