"""Texts: plants written as lines, and read back."""

from faultorder.errors import BadText
from faultorder.plants import Plant, is_name

DIGITS = "0123456789"
# Which lines may stand behind one, "" being the place ahead of all.
NEXT_LINES = {"": ("part",), "part": ("part", "gate"), "gate": ("gate", "cause", "top"), "cause": ("cause", "top"),
              "top": ()}


def gate_words(gate):
    """The words of a gate behind its name."""
    if gate[1] == "before":
        return gate[1:]
    if gate[1] == "least":
        return ("least", str(gate[2])) + gate[3]
    return (gate[1],) + gate[2]


def format_plant(plant):
    """The text of a plant."""
    lines = [("part",) + part for part in plant.parts]
    lines.extend([("gate", gate[0]) + gate_words(gate) for gate in plant.gates])
    lines.extend([("cause", trigger) + parts for trigger, parts in plant.causes])
    lines.append(("top", plant.top))
    return "".join([" ".join(words) + "\n" for words in lines])


def are_names(words):
    """Whether words are one name or more."""
    return len(words) > 0 and all([is_name(word) for word in words])


def is_number(word):
    """Whether a word is a number of one or two digits, the first one not being 0."""
    return len(word) in (1, 2) and word[0] != "0" and all([sign in DIGITS for sign in word])


def is_gate_line(words):
    """Whether the words behind gate are those of a gate, as far as their form tells."""
    if len(words) < 3 or not is_name(words[0]):
        return False
    if words[1] == "least":
        return is_number(words[2]) and are_names(words[3:])
    if words[1] == "before":
        return len(words) == 4 and are_names(words[2:])
    return words[1] in ("all", "any", "spare") and are_names(words[2:])


def is_line(words):
    """Whether words have the form of a line."""
    if words[0] == "part":
        return len(words) == 3 and is_name(words[1]) and words[2] in ("hot", "cold")
    if words[0] == "gate":
        return is_gate_line(words[1:])
    if words[0] == "cause":
        return len(words) > 2 and are_names(words[1:])
    return words[0] == "top" and len(words) == 2 and is_name(words[1])


def gate_of(words):
    """The gate that is written by the words behind gate."""
    name, word = words[0], words[1]
    if word == "before":
        return tuple(words)
    if word == "least":
        return name, word, int(words[2]), tuple(words[3:])
    return name, word, tuple(words[2:])


def lines_of(text):
    """The lines of a text; the last newline may be missing."""
    lines = text.split("\n")
    return lines[:-1] if lines[-1] == "" else lines


def check_lines(text, lines):
    """Raise BadText for the first line, a list of its words, that may not stand where it stands."""
    place = ""
    for index, words in enumerate(lines):
        if not is_line(words) or words[0] not in NEXT_LINES[place]:
            raise BadText(index)
        place = words[0]
    if place != "top" or not text.endswith("\n"):
        raise BadText(len(lines))


def parse_plant(text):
    """The plant that a text is of."""
    if not isinstance(text, str):
        raise BadText(0)
    lines = [line.split(" ") for line in lines_of(text)]
    check_lines(text, lines)
    parts = [(words[1], words[2]) for words in lines if words[0] == "part"]
    gates = [gate_of(words[1:]) for words in lines if words[0] == "gate"]
    causes = [(words[1], tuple(words[2:])) for words in lines if words[0] == "cause"]
    return Plant(parts, gates, causes, lines[-1][1])
