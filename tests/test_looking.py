import copy
import itertools
import unittest

from faultorder.errors import NoSensor
from faultorder.looking import depth, inspect, is_inspection
from faultorder.runs import Run
from tests import games, reference
from tests.making import ANY_VALUES, Choices, events, made_plants, plant_of

BOTH = plant_of("a b", [("g", "all", ("a", "b"))])
THREE = plant_of("a b c", [("two", "least", 2, ("a", "b", "c")), ("g", "all", ("a", "b", "c"))])
BEFORE = plant_of("a b c", [("x", "before", "a", "b"), ("g", "all", ("x", "c"))])
NEVER = plant_of("a *s", [("g", "all", ("a", "s"))])
SAFE, DANGER = ("danger", False), ("danger", True)


def state_of(plant, text):
    run = Run(plant)
    run.do_all(events(text))
    return run.state


def states_of(plant, *texts):
    return [state_of(plant, text) for text in texts]


def names_of(plant):
    return [name for name, _ in plant.parts] + [gate[0] for gate in plant.gates]


def going_states(values):
    """All states that rows lead to in which the plant has not stopped, with (truths, danger) of each."""
    graph = reference.Graph(values)
    found = {}
    for state in graph.rows:
        if not graph.stopped[state]:
            behind = [after for event, after in graph.steps[state].items() if event[0] == "fail"]
            found[state] = (graph.truths[state], any(graph.stopped[after] for after in behind))
    return found


def told_by(inspection, truths):
    """What an inspection comes to, walked look by look."""
    while inspection[0] == "look":
        inspection = inspection[3] if truths[inspection[1]] else inspection[2]
    return inspection[1]


class TestInspect(unittest.TestCase):
    def test_by_hand(self):
        states = states_of(BOTH, "", "a", "b")
        self.assertEqual(inspect(BOTH, states, ["a"]), None)
        self.assertEqual(inspect(BOTH, states, ["b"]), None)
        told = inspect(BOTH, states, ["a", "b"])
        self.assertIn(told, [("look", "a", ("look", "b", SAFE, DANGER), DANGER),
                             ("look", "b", ("look", "a", SAFE, DANGER), DANGER)])
        self.assertEqual(inspect(BOTH, states[:2], ["b", "a"]), ("look", "a", SAFE, DANGER))
        self.assertEqual(inspect(BOTH, states[1:], ["b", "a"]), DANGER)
        self.assertEqual(inspect(BOTH, states[:1], ["b", "a"]), SAFE)

    def test_a_gate_tells_more_than_parts(self):
        states = states_of(THREE, "", "a", "b", "c", "a b", "a c", "b c")
        self.assertEqual(inspect(THREE, states, ["a", "b", "c", "two"]), ("look", "two", SAFE, DANGER))
        self.assertEqual(depth(inspect(THREE, states, ["a", "b", "c"])), 3)
        self.assertIsNone(inspect(THREE, states, ["a", "b", "g"]))

    def test_a_before_gate(self):
        states = states_of(BEFORE, "a b", "b a")
        self.assertIsNone(inspect(BEFORE, states, ["a", "b", "c", "g"]))
        self.assertEqual(inspect(BEFORE, states, ["a", "x"]), ("look", "x", SAFE, DANGER))

    def test_no_states(self):
        for names in ([], ["a"], ["a", "b", "g"]):
            for states in ([], ()):
                told = inspect(BOTH, states, names)
                self.assertEqual(told[0], "danger")
                self.assertIs(type(told[1]), bool)
                self.assertEqual((len(told), depth(told)), (2, 0))

    def test_no_names(self):
        self.assertEqual(inspect(BOTH, states_of(BOTH, ""), []), SAFE)
        self.assertEqual(inspect(BOTH, states_of(BOTH, "a", "b"), ()), DANGER)
        self.assertIsNone(inspect(BOTH, states_of(BOTH, "", "b"), []))

    def test_one_state_given_twice(self):
        one, other = states_of(BOTH, "", "a")
        self.assertEqual(inspect(BOTH, [one, one], []), SAFE)
        self.assertEqual(inspect(BOTH, [other, other], ["a"]), DANGER)
        self.assertEqual(inspect(BOTH, [one, other, one, other], ["a"]), ("look", "a", SAFE, DANGER))

    def test_two_states_that_look_the_same(self):
        states = states_of(THREE, "a", "b")
        self.assertEqual(inspect(THREE, states, ["c", "two"]), SAFE)
        states = states_of(THREE, "a", "a b")
        self.assertIsNone(inspect(THREE, states, ["a", "c", "g"]))

    def test_a_plant_that_never_stops(self):
        self.assertEqual(inspect(NEVER, states_of(NEVER, "", "a"), ["a", "s"]), SAFE)

    def test_tuples_and_names(self):
        states = states_of(BOTH, "", "a")
        self.assertEqual(inspect(plant=BOTH, states=tuple(states), names=("a",)), ("look", "a", SAFE, DANGER))
        self.assertIs(is_inspection(plant=BOTH, states=tuple(states), names=("a",), value=("look", "a", SAFE, DANGER)),
                      True)
        self.assertEqual(depth(value=("look", "a", SAFE, DANGER)), 1)

    def test_against_all_inspections(self):
        depths, many = set(), 0
        for seed, (values, plant) in enumerate(made_plants(120, 5, 6)):
            choices, told = Choices(seed), going_states(values)
            for _ in range(3):
                states = list(choices.some(list(told), 12))
                names = choices.some(names_of(plant), 5)[choices.below(2):]
                wanted = games.least_depth([told[state] for state in states], names)
                inspection = inspect(plant, states, names)
                if wanted is None:
                    many += 1
                    self.assertIsNone(inspection)
                    continue
                self.check_form(inspection, names)
                self.assertEqual(depth(inspection), wanted)
                for state in states:
                    self.assertIs(told_by(inspection, told[state][0]), told[state][1])
                self.assertIs(is_inspection(plant, states, names, inspection), True)
                self.assertEqual(inspect(plant, tuple(states), list(names)), inspection)
                depths.add(wanted)
        self.assertLess(3, len(depths))
        self.assertGreater(many, 20)

    def check_form(self, value, names):
        self.assertIs(type(value), tuple)
        if len(value) == 2:
            self.assertEqual((value[0], type(value[1])), ("danger", bool))
        else:
            self.assertEqual((value[0], len(value)), ("look", 4))
            self.assertIn(value[1], names)
            self.check_form(value[2], names)
            self.check_form(value[3], names)

    def test_six_names(self):
        plant = plant_of("a b c d e f", [("odd", "least", 3, ("a", "b", "c", "d", "e", "f"))])
        states = [(failed, (), ()) for many in range(3) for failed in itertools.combinations("abcdef", many)]
        told = inspect(plant, states, ["f", "e", "d", "c", "b", "a"])
        self.assertEqual(depth(told), 6)
        self.assertIs(is_inspection(plant, states, list("abcdef"), told), True)

    def test_states_and_names_are_not_changed(self):
        states, names = states_of(BOTH, "", "a", "b"), ["b", "a"]
        first = inspect(BOTH, states, names)
        self.assertIs(is_inspection(BOTH, states, names, first), True)
        self.assertEqual((states, names), (states_of(BOTH, "", "a", "b"), ["b", "a"]))
        states.clear()
        names.clear()
        self.assertEqual(inspect(BOTH, states_of(BOTH, "", "a", "b"), ["b", "a"]), first)


class TestIsInspection(unittest.TestCase):
    STATES = states_of(BOTH, "", "a", "b")
    GOOD = ("look", "a", ("look", "b", SAFE, DANGER), DANGER)

    def told(self, value, states=None, names=("a", "b")):
        return is_inspection(BOTH, self.STATES if states is None else states, list(names), value)

    def test_right_ones(self):
        for value in [self.GOOD, ("look", "b", ("look", "a", SAFE, DANGER), DANGER),
                      ("look", "a", ("look", "b", SAFE, DANGER), ("look", "b", DANGER, SAFE)),
                      ("look", "a", ("look", "b", ("look", "a", SAFE, SAFE), DANGER), DANGER),
                      ("look", "b", self.GOOD, ("look", "b", SAFE, DANGER))]:
            self.assertIs(self.told(value), True, value)

    def test_one_branch_exchanged_or_otherwise(self):
        look = self.GOOD[2]
        for value in [("look", "a", DANGER, look), ("look", "b", look, DANGER), ("look", "a", SAFE, DANGER), SAFE, DANGER,
                      ("look", "a", ("look", "b", DANGER, SAFE), DANGER), ("look", "a", look, SAFE),
                      ("look", "a", ("look", "a", SAFE, DANGER), DANGER), look]:
            self.assertIs(self.told(value), False, value)

    def test_the_form(self):
        look = self.GOOD[2]
        for value in [list(self.GOOD), ("look", "a", list(look), DANGER), ("look", "a", look, list(DANGER)),
                      self.GOOD[:3], self.GOOD + (DANGER,), ("look",) + self.GOOD, self.GOOD[1:], ("Look",) + self.GOOD[1:],
                      ("look", ["a"], look, DANGER), ("look", "c", look, DANGER), ("look", "g", look, DANGER),
                      ("look", "", look, DANGER), ("look", None, look, DANGER), ("look", ("a",), look, DANGER),
                      ("look", "a", look, ("danger", 1)), ("look", "a", ("look", "b", ("danger", 0), DANGER), DANGER),
                      ("look", "a", look, True), ("look", "a", look, ("danger",)), ("look", "a", look, ("danger", True, True)),
                      ("look", "a", look, ("safe", True)), ("look", "a", look, None), ("danger", "a", look, DANGER)]:
            self.assertIs(self.told(value), False, value)

    def test_the_form_on_paths_that_no_state_takes(self):
        one = states_of(BOTH, "a")
        for branch, right in [(SAFE, True), (DANGER, True), (("look", "b", SAFE, SAFE), True), (("danger", 1), False),
                              (["danger", True], False), (("look", "g", SAFE, SAFE), False), (None, False), ((), False),
                              (("look", "b", SAFE, ("look", "a", SAFE, 7)), False), ("danger", False)]:
            self.assertIs(self.told(("look", "a", branch, DANGER), one), right, branch)
            self.assertIs(self.told(("look", "b", DANGER, branch), one), right, branch)
            self.assertIs(self.told(("look", "a", branch, branch), []), right)

    def test_names_that_may_be_looked_at(self):
        states = states_of(THREE, "a", "a b")
        value = ("look", "two", SAFE, DANGER)
        self.assertIs(is_inspection(THREE, states, ["two"], value), True)
        self.assertIs(is_inspection(THREE, states, ["a", "b", "c", "g"], value), False)
        self.assertIs(is_inspection(THREE, states, [], value), False)

    def test_no_states(self):
        for value in (SAFE, DANGER, ("look", "a", SAFE, DANGER), self.GOOD):
            self.assertIs(self.told(value, []), True)
        self.assertIs(self.told(("look", "a", SAFE, DANGER), [], []), False)
        self.assertIs(self.told(SAFE, [], []), True)

    def test_one_state_of_many_is_enough(self):
        states = states_of(THREE, "", "a", "b", "c", "a b", "a c", "b c")
        self.assertIs(is_inspection(THREE, states[:4], ["a"], SAFE), True)
        self.assertIs(is_inspection(THREE, states[4:], ["a"], DANGER), True)
        for state in states[4:]:
            self.assertIs(is_inspection(THREE, states[:4] + [state], ["a"], SAFE), False)
            self.assertIs(is_inspection(THREE, [state] + states[:4], ["a"], SAFE), False)

    def test_any_value(self):
        for value in ANY_VALUES:
            kept = copy.deepcopy(value)
            for wrong in (value, (value,), ("danger", value), ("look", value, SAFE, DANGER),
                          ("look", "a", value, DANGER), ("look", "a", self.GOOD[2], value), (value, True),
                          (value,) + self.GOOD[1:], ("look", "a", ("look", "b", SAFE, ("danger", value)), DANGER)):
                if wrong != ("look", "a", ("look", "b", SAFE, DANGER), DANGER) or value is not True:
                    self.assertIs(self.told(wrong), False, wrong)
            self.assertEqual(value, kept)

    def test_long_paths(self):
        value = DANGER
        for _ in range(9):
            value = ("look", "a", SAFE, ("look", "b", value, value))
        self.assertEqual(depth(value), 18)
        self.assertIs(self.told(value, states_of(BOTH, "a")), True)
        self.assertIs(self.told(value), False)


class TestDepth(unittest.TestCase):
    def test_by_hand(self):
        one = ("look", "a", SAFE, DANGER)
        for value, told in [(SAFE, 0), (DANGER, 0), (one, 1), (("look", "b", one, SAFE), 2), (("look", "b", SAFE, one), 2),
                            (("look", "b", one, one), 2), (("look", "c", ("look", "b", SAFE, one), one), 3)]:
            self.assertEqual(depth(value), told)


class TestErrors(unittest.TestCase):
    def refused(self, names, index):
        kept = copy.deepcopy(names)
        calls = [lambda: inspect(THREE, [], names), lambda: is_inspection(THREE, [], names, None),
                 lambda: is_inspection(THREE, states_of(THREE, ""), names, SAFE),
                 lambda: inspect(THREE, states_of(THREE, "", "a b"), names)]
        for call in calls:
            with self.assertRaises(NoSensor, msg=names) as caught:
                call()
            self.assertEqual(caught.exception.index, index)
        self.assertEqual(names, kept)

    def test_no_sensor(self):
        for value in ANY_VALUES + ["d", ("a",), ["a"], "ab", ("a", "b")]:
            self.refused([value], 0)
            self.refused(["a", value], 1)
            self.refused(("two", "g", value, value), 2)
        self.refused(["a", "a"], 1)
        self.refused(["g", "a", "two", "g", "d"], 3)

    def test_no_list(self):
        for value in ANY_VALUES + ["a", "ab", {"a": True}]:
            if not isinstance(value, (list, tuple)):
                self.refused(value, 0)


if __name__ == "__main__":
    unittest.main()
