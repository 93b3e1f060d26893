"""Values, plants and rows for the tests, always the same ones."""

from faultorder.plants import Plant
from tests.model import Model

NAMES = ["a", "bb", "ccc", "dddd", "eeeee", "ffffff", "g", "hh", "iii", "jjjj", "kkkkk", "llllll",
         "m", "nn", "ooo", "zzzzzz"]

# Values of every kind that a caller may pass anywhere, none of which is a name, a kind or a word.
DEEP = []
for _ in range(19):
    DEEP = [DEEP]
ANY_VALUES = [0, 1, -1, 7, 10 ** 39, True, False, None, "", " ", "A", "a b", "abcdefg", "a1", "a\n", "\n", "~" * 60,
              [], (), {}, [1], (1,), ["a"], ("a",), {"a": 1}, {1: "a"}, [[]], ((),), ("a", "hot"), ["a", "hot"],
              ("fail",), ("fail", "zz"), ("fail", 1), DEEP, {(1, "a"): [{"b": (None, True)}]}]


class Choices:
    """A row of choices that is always the same for a seed."""

    def __init__(self, seed):
        self.now = seed * 7919 + 1

    def below(self, many):
        self.now = (self.now * 6364136223846793005 + 1442695040888963407) % (1 << 64)
        return (self.now >> 33) % many

    def one(self, values):
        return values[self.below(len(values))]

    def some(self, values, most=8):
        """A tuple of different ones of the values, one at least."""
        left = list(values)
        many = 1 + self.below(min(most, len(left)))
        return tuple([left.pop(self.below(len(left))) for _ in range(many)])


WORDS = ["all", "any", "least", "before", "before", "spare", "spare"]


def make_gate(choices, name, parts, names, words):
    word = choices.one(words)
    if word == "before" and len(names) > 1:
        first, second = choices.some(names)[0], choices.some(names)[0]
        while second == first:
            second = choices.one(names)
        return (name, "before", first, second)
    if word == "spare":
        return (name, "spare", choices.some(parts, 3))
    inputs = choices.some(names, 4)
    if word == "least":
        return (name, "least", 1 + choices.below(len(inputs)), inputs)
    return (name, "any" if word == "any" else "all", inputs)


def make_values(seed, most_parts=8, most_gates=8, words=WORDS):
    """The four values for a plant; its top may be true at the beginning."""
    choices = Choices(seed)
    names = choices.some(NAMES, 16)
    while len(names) < 2:
        names = choices.some(NAMES, 16)
    many = min(most_parts, 1 + choices.below(len(names) - 1))
    parts = list(names[:many])
    gates = []
    for name in names[many:many + most_gates]:
        gates.append(make_gate(choices, name, parts, parts + [gate[0] for gate in gates], words))
    known = parts + [gate[0] for gate in gates]
    causes = [(choices.one(known), choices.some(parts, 3)) for _ in range(choices.below(5))]
    kinds = [(part, choices.one(["hot", "hot", "cold"])) for part in parts]
    return kinds, gates, causes, choices.one(gates)[0]


def made_plants(count, most_parts=8, most_gates=8, words=WORDS):
    """So many plants that are the same each time, with the values they are made of."""
    found = []
    seed = 0
    while len(found) < count:
        values = make_values(seed, most_parts, most_gates, words)
        if not Model(*values).is_true(values[3]):
            found.append((values, Plant(*values)))
        seed += 1
    return found


def plant_of(parts, gates, causes=(), top=None):
    """A plant with parts as words, those that are cold behind a star; the top is the last gate."""
    kinds = [(word.strip("*"), "cold" if word.startswith("*") else "hot") for word in parts.split()]
    return Plant(kinds, gates, list(causes), top or gates[-1][0])


def values_of(plant):
    """The four values that a plant is made of."""
    return plant.parts, plant.gates, plant.causes, plant.top


def fails(text):
    """The failures of the parts in a text of words."""
    return [("fail", name) for name in text.split()]


def events(text):
    """A row: -a for the mend of a, else a failure."""
    return [("mend", word[1:]) if word.startswith("-") else ("fail", word) for word in text.split()]


def is_hashable(value):
    """Whether a value can be a key of a dict."""
    try:
        hash(value)
    except TypeError:
        return False
    return True
