"""Plants: parts that work or have failed, gates that watch over them, causes and a top."""

from faultorder.errors import BadPlant

LETTERS = "abcdefghijklmnopqrstuvwxyz"
MOST_LETTERS = 6
MOST_PARTS = 8
MOST_GATES = 8
MOST_CAUSES = 4


def is_name(value):
    """Whether any value is a name: a string of 1 to 6 lowercase letters."""
    if not isinstance(value, str) or not 1 <= len(value) <= MOST_LETTERS:
        return False
    return all([letter in LETTERS for letter in value])


def is_integer(value):
    """Whether any value is an integer; True and False are none."""
    return isinstance(value, int) and not isinstance(value, bool)


def is_list(value):
    """Whether any value can stand where a list is documented."""
    return isinstance(value, (list, tuple))


def all_differ(values):
    """Whether no value occurs twice; the values may be of any kind."""
    return all([values[at] not in values[:at] for at in range(len(values))])


def is_choice(value, names):
    """Whether any value is a nonempty tuple of different ones of a list of names."""
    if not isinstance(value, tuple) or not value:
        return False
    return all([item in names for item in value]) and all_differ(value)


def is_part(value):
    """Whether any value is a pair (name, kind)."""
    if not isinstance(value, tuple) or len(value) != 2:
        return False
    return is_name(value[0]) and value[1] in ("hot", "cold")


def are_parts(value):
    """Whether any value is a list of parts, as a plant has them."""
    if not is_list(value) or not 1 <= len(value) <= MOST_PARTS:
        return False
    return all([is_part(item) for item in value]) and all_differ([item[0] for item in value])


def is_watch(word, rest, parts, names):
    """Whether a gate of any word may have this rest behind it; names are the parts and earlier gates."""
    if word == "before":
        return len(rest) == 2 and is_choice(rest, names)
    if word == "least":
        if len(rest) != 2 or not is_integer(rest[0]) or not is_choice(rest[1], names):
            return False
        return 1 <= rest[0] <= len(rest[1])
    if word == "spare":
        return len(rest) == 1 and is_choice(rest[0], parts)
    return word in ("all", "any") and len(rest) == 1 and is_choice(rest[0], names)


def is_gate(value, parts, names):
    """Whether any value is a gate that may stand behind these names of parts and earlier gates."""
    if not isinstance(value, tuple) or len(value) < 2:
        return False
    if not is_name(value[0]) or value[0] in names:
        return False
    return is_watch(value[1], value[2:], parts, names)


def are_gates(value, parts):
    """Whether any value is a list of gates over the parts with these names."""
    if not is_list(value) or not 1 <= len(value) <= MOST_GATES:
        return False
    names = list(parts)
    for item in value:
        if not is_gate(item, parts, names):
            return False
        names.append(item[0])
    return True


def is_cause(value, parts, names):
    """Whether any value is a pair (trigger, parts)."""
    if not isinstance(value, tuple) or len(value) != 2:
        return False
    return value[0] in names and is_choice(value[1], parts)


def are_causes(value, parts, names):
    """Whether any value is a list of causes for these names of parts, and of parts and gates."""
    if not is_list(value) or len(value) > MOST_CAUSES:
        return False
    return all([is_cause(item, parts, names) for item in value])


def take(gates, uses, failed):
    """What the spare gates use when they have taken: a dict, "" for none, in the order of the gates."""
    now = dict(uses)
    for gate in gates:
        if gate[1] == "spare" and (now[gate[0]] == "" or now[gate[0]] in failed):
            # What this gate itself has used so far cannot be taken again: it is none, or has failed.
            used = list(now.values())
            free = [part for part in gate[2] if part not in failed and part not in used]
            now[gate[0]] = free[0] if free else ""
    return now


def first_uses(gates):
    """What the spare gates use at the beginning."""
    return take(gates, {gate[0]: "" for gate in gates if gate[1] == "spare"}, ())


def gate_truth(gate, truths, uses):
    """Whether a gate is true that is no before gate; truths has its inputs."""
    word = gate[1]
    if word == "all":
        return all([truths[name] for name in gate[2]])
    if word == "any":
        return any([truths[name] for name in gate[2]])
    if word == "least":
        return len([name for name in gate[3] if truths[name]]) >= gate[2]
    return uses[gate[0]] == ""


def tell(parts, gates, failed, uses, before):
    """The truths of all parts and gates; before(gate, truths) tells that of a before gate."""
    truths = {name: name in failed for name, _ in parts}
    for gate in gates:
        if gate[1] == "before":
            truths[gate[0]] = before(gate, truths)
        else:
            truths[gate[0]] = gate_truth(gate, truths, uses)
    return truths


def is_top(value, parts, gates):
    """Whether any value is the name of a gate that is false at the beginning."""
    if value not in [gate[0] for gate in gates]:
        return False
    truths = tell(parts, gates, (), first_uses(gates), lambda gate, told: False)
    return not truths[value]


class Plant:
    """A plant: its parts, gates, causes and top, which never change."""

    def __init__(self, parts, gates, causes, top):
        if not are_parts(parts):
            raise BadPlant(0)
        names = [part[0] for part in parts]
        if not are_gates(gates, names):
            raise BadPlant(1)
        if not are_causes(causes, names, names + [gate[0] for gate in gates]):
            raise BadPlant(2)
        if not is_top(top, parts, gates):
            raise BadPlant(3)
        self._parts = tuple(parts)
        self._gates = tuple(gates)
        self._causes = tuple(causes)
        self._top = top

    def __eq__(self, other):
        return (isinstance(other, Plant) and self._parts == other._parts and self._gates == other._gates
                and self._causes == other._causes and self._top == other._top)

    @property
    def parts(self):
        """The pairs (name, kind) of the parts."""
        return self._parts

    @property
    def gates(self):
        """The gates, each with its name and its word ahead."""
        return self._gates

    @property
    def causes(self):
        """The pairs (trigger, parts) of the causes."""
        return self._causes

    @property
    def top(self):
        """The name of the top gate."""
        return self._top
