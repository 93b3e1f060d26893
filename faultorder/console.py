"""Consoles: sessions that are led by lines of words."""

from faultorder.bench import Bench
from faultorder.errors import BadText, NoEvent, NothingLeft
from faultorder.mending import least_crew
from faultorder.orders import least_orders
from faultorder.plants import is_name
from faultorder.runs import events_in, truths_in
from faultorder.texts import lines_of

QUESTIONS = ("state", "true", "possible", "orders", "crew")


def or_none(text):
    """A text, or none where nothing stands in it."""
    return text if text else "none"


class Console:
    """A session with a plant, a reply for each line."""

    def __init__(self, plant):
        self._bench = Bench(plant)

    def reply(self, line):
        """The reply to any value as a line."""
        if not isinstance(line, str):
            return "unknown"
        words = line.split(" ")
        if len(words) == 2 and words[0] in ("fail", "mend") and is_name(words[1]):
            return self._led((words[0], words[1]))
        if line in ("undo", "redo", "begin"):
            return self._moved(line)
        if line in QUESTIONS:
            return self._told(line)
        return "unknown"

    def _led(self, event):
        try:
            fallen = self._bench.do(("event", event))
        except NoEvent:
            return "error noevent"
        return or_none(" ".join(fallen)) + (" stopped" if self._bench.stopped else "")

    def _moved(self, word):
        if word == "begin":
            self._bench.do(("begin",))
            return "ok"
        try:
            if word == "undo":
                self._bench.undo()
            else:
                self._bench.redo()
        except NothingLeft:
            return "error nothingleft"
        return "ok"

    def _told(self, question):
        plant, state = self._bench.plant, self._bench.state
        if question == "state":
            return or_none(" ".join(state[0]))
        if question == "true":
            truths = truths_in(plant, state)
            return or_none(" ".join([gate[0] for gate in plant.gates if truths[gate[0]]]))
        if question == "possible":
            return or_none(", ".join([" ".join(event) for event in events_in(plant, state)]))
        if question == "orders":
            return or_none(" ".join(["-".join(order) for order in least_orders(plant)]))
        crew = least_crew(plant)
        return "never" if crew is None else str(crew)


def replies(plant, text):
    """The replies of a new console to the lines of a text; a last line that is empty is ignored."""
    if not isinstance(text, str):
        raise BadText(0)
    console = Console(plant)
    return [console.reply(line) for line in lines_of(text)]
