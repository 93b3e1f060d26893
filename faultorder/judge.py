"""The judge: whether a journal of a session is right, entry by entry."""

from faultorder.bench import behind_operation, is_operation
from faultorder.errors import BadPlant, NoEvent
from faultorder.mending import is_attack, is_plan
from faultorder.plants import is_integer, is_list
from faultorder.runs import beginning


class Judge:
    """A plant that is led by the entries of a journal as far as they are right."""

    def __init__(self, plant):
        self._place = (plant, beginning(plant))
        # The places ahead of the operations that stand, and behind those that can be done again.
        self._ahead = []
        self._behind = []

    def accepts(self, entry):
        """Whether any value is right as the next entry; if so, it has happened."""
        if not isinstance(entry, tuple) or not entry:
            return False
        if entry == ("undone",):
            return self._goes_back()
        if entry == ("redone",):
            return self._goes_forth()
        if entry[0] == "done" and len(entry) == 3:
            return self._is_done(entry[1], entry[2])
        return entry[0] == "asked" and len(entry) == 3 and self._is_answer(entry[1], entry[2])

    def _goes_back(self):
        if not self._ahead:
            return False
        self._behind.append(self._place)
        self._place = self._ahead.pop()
        return True

    def _goes_forth(self):
        if not self._behind:
            return False
        self._ahead.append(self._place)
        self._place = self._behind.pop()
        return True

    def _is_done(self, operation, result):
        if not is_operation(operation):
            return False
        try:
            plant, state, told = behind_operation(self._place[0], self._place[1], operation)
        except (NoEvent, BadPlant):
            return False
        if told != result:
            return False
        self._ahead.append(self._place)
        self._behind = []
        self._place = (plant, state)
        return True

    def _is_answer(self, crew, answer):
        if not is_integer(crew) or crew < 0 or not isinstance(answer, tuple) or len(answer) != 2:
            return False
        word, told = answer
        if word == "kept":
            return is_plan(self._place[0], crew, None, told)
        return word == "lost" and is_attack(self._place[0], crew, None, told)


def first_wrong(plant, journal):
    """The index of the first entry of any value that is not right behind those before it, None if all are."""
    if not is_list(journal):
        return 0
    judge = Judge(plant)
    for index, entry in enumerate(journal):
        if not judge.accepts(entry):
            return index
    return None
