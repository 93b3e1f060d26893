import copy
import itertools
import unittest

from faultorder.errors import NoSensor
from faultorder.explaining import behind, explained, suspects
from faultorder.runs import Run
from faultorder.watching import seen
from tests import games, reference
from tests.making import ANY_VALUES, Choices, events, made_plants, plant_of

BOTH = plant_of("a b", [("g", "all", ("a", "b"))])
THREE = plant_of("a b c", [("two", "least", 2, ("a", "b", "c")), ("g", "all", ("a", "b", "c"))])
BEFORE = plant_of("a b c", [("x", "before", "a", "b"), ("g", "all", ("x", "c"))])
SPARES = plant_of("a b *s", [("u", "spare", ("a", "s")), ("g", "all", ("u", "b"))])
CAUSE = plant_of("a b c d", [("g", "all", ("c", "d"))], [("a", ("b", "d"))])


def row(text):
    return tuple(events(text))


def record(*words):
    """A record, 1 and 0 in words being True and False."""
    return tuple([tuple([sign == "1" for sign in word]) for word in words])


def state_of(plant, text):
    run = Run(plant)
    run.do_all(events(text))
    return run.state


def names_of(plant):
    return [name for name, _ in plant.parts] + [gate[0] for gate in plant.gates]


class TestExplained(unittest.TestCase):
    def test_by_hand(self):
        for sensors, words, text in [
                (["a"], ["0"], ""), (["a"], ["0", "1"], "a"), (["a"], ["0", "1", "0"], "a -a"),
                (["a"], ["0", "1", "0", "1"], "a -a a"), (["two"], ["0", "1"], "a b"),
                (["a", "two"], ["00", "11"], "b a"), (["a", "two"], ["00", "10", "11"], "a b"),
                (["b", "two"], ["00", "01"], "a c"), (["c", "two"], ["00", "11", "00"], "a c -c"), (["g"], ["0"], "")]:
            told = explained(THREE, sensors, record(*words))
            self.assertEqual((told, seen(THREE, sensors, told)), (row(text), record(*words)))
        # Only the failure of all three, which stops the plant, would show this.
        self.assertIsNone(explained(THREE, ["a", "two"], record("00", "10", "11", "01")))

    def test_fail_comes_ahead_of_mend(self):
        # The danger ends by a mend of b or of c; behind it the least one of both is mended.
        told = explained(THREE, ["two"], record("0", "1", "0"))
        self.assertEqual(told, row("a b -a"))
        told = explained(BEFORE, ["b", "a"], record("00", "01", "11", "01"))
        self.assertEqual(told, row("a b -b"))

    def test_the_shortest_row_comes_ahead_of_the_least_one(self):
        # s is cold, and is used only behind the failure of a.
        self.assertEqual(explained(SPARES, ["s"], record("0", "1")), row("a s"))
        self.assertEqual(explained(SPARES, ["s", "a"], record("00", "01", "00", "10")), row("a -a s"))
        self.assertEqual(explained(CAUSE, ["d"], record("0", "1")), row("a"))
        self.assertEqual(explained(CAUSE, ["d", "b"], record("00", "10")), row("d"))
        self.assertEqual(explained(CAUSE, ["d", "a"], record("00", "10")), row("d"))
        self.assertEqual(explained(CAUSE, ["c", "d"], record("00", "10")), row("c"))

    def test_what_changes_nothing_is_played_where_it_is_needed(self):
        plant = plant_of("a b c", [("two", "least", 2, ("a", "b")), ("g", "all", ("a", "b", "c"))])
        self.assertEqual(explained(plant, ["two", "b"], record("00", "11")), row("a b"))
        self.assertEqual(explained(plant, ["two"], record("0", "1")), row("a b"))

    def test_no_sensors(self):
        for plant in (BOTH, THREE, BEFORE, SPARES):
            self.assertEqual(explained(plant, [], ((),)), ())
            self.assertEqual(explained(plant, (), ((),)), ())
            for value in ((), ((), ()), ((False,),), None, [()], ([],)):
                self.assertIsNone(explained(plant, [], value))

    def test_the_beginning_alone(self):
        plant = plant_of("a b", [("u", "spare", ("a",)), ("v", "spare", ("a",)), ("g", "all", ("a", "b"))])
        self.assertEqual(explained(plant, ["v", "u", "a"], record("100")), ())
        for wrong in ("000", "110", "101", "10", "1000", ""):
            self.assertIsNone(explained(plant, ["v", "u", "a"], record(wrong)))

    def test_an_empty_record(self):
        for sensors in ([], ["a"], ["a", "g"]):
            self.assertIsNone(explained(BOTH, sensors, ()))

    def test_records_that_no_row_explains(self):
        for sensors, words in [(["a"], ["1"]), (["a"], ["1", "0"]), (["a"], ["0", "0"]), (["a"], ["0", "1", "1"]),
                               (["a", "b"], ["00", "11"]), (["g"], ["0", "1"]), (["a", "b"], ["00", "10", "11"]),
                               (["a"], ["0", "1", "0", "0"]), (["a"], ["00"]), (["a"], [""]), (["a"], ["0", ""]),
                               (["a", "b"], ["00", "10", "01"]), (["b"], ["0", "0", "1"])]:
            self.assertIsNone(explained(BOTH, sensors, record(*words)), words)
            self.assertEqual(behind(BOTH, sensors, record(*words)), ())
            self.assertEqual(suspects(BOTH, sensors, record(*words)), {})

    def test_rows_that_stop_the_plant_explain_nothing(self):
        plant = plant_of("a b c", [("g", "all", ("a", "b"))])
        # c fails and a works again behind the stop, as nobody asks for.
        self.assertIsNone(explained(plant, ["g"], record("0", "1")))
        self.assertIsNone(explained(plant, ["a", "b"], record("00", "10", "11", "01")))
        self.assertEqual(explained(plant, ["a", "b"], record("00", "10", "00", "01")), row("a -a b"))

    def test_the_same_state_with_a_longer_part_of_the_record(self):
        self.assertEqual(explained(BOTH, ["a"], record("0", "1", "0", "1", "0", "1", "0")),
                         row("a -a a -a a -a"))
        words = ["0", "1"] * 20
        self.assertEqual(explained(BOTH, ["b"], record(*words)), row("b -b") * 19 + row("b"))

    def test_tuples_of_sensors(self):
        self.assertEqual(explained(BOTH, ("a",), record("0", "1")), row("a"))

    def test_by_name(self):
        self.assertEqual(explained(plant=BOTH, sensors=["a"], record=record("0", "1")), row("a"))
        self.assertEqual(behind(plant=BOTH, sensors=["a"], record=record("0", "1")), ((("a",), (), ()),))
        self.assertEqual(suspects(plant=BOTH, sensors=["a"], record=record("0")), {"a": "working", "b": "open"})


class TestBehind(unittest.TestCase):
    def test_by_hand(self):
        def states(*texts):
            return tuple(sorted([state_of(THREE, text) for text in texts]))
        self.assertEqual(behind(THREE, ["a"], record("0")), states("", "b", "c", "b c"))
        self.assertEqual(behind(THREE, ["a"], record("0", "1")), states("a", "a b", "a c"))
        self.assertEqual(behind(THREE, ["a", "two"], record("00", "11")), states("a b", "a c"))
        self.assertEqual(behind(THREE, ["a", "b"], record("00", "10", "11")), states("a b"))
        self.assertEqual(behind(THREE, [], ((),)), states("", "a", "b", "c", "a b", "a c", "b c"))

    def test_the_order_of_failures_is_told(self):
        before = state_of(BEFORE, "a b")
        after = state_of(BEFORE, "b a")
        self.assertNotEqual(before, after)
        self.assertEqual(behind(BEFORE, ["a", "b", "c"], record("000", "100", "110")), (before,))
        self.assertEqual(behind(BEFORE, ["b", "a", "c"], record("000", "100", "110")), (after,))

    def test_spare_gates(self):
        told = behind(SPARES, ["a"], record("0", "1", "0"))
        self.assertIn(state_of(SPARES, "a -a"), told)
        self.assertIn(state_of(SPARES, "a s -a"), told)
        self.assertEqual(list(told), sorted(set(told)))

    def test_any_value(self):
        good = record("0", "1")
        wrongs = [list(good), (list(good[0]), good[1]), (good[0], [True]), (good[0], (1,)), ((0,), good[1]),
                  (good[0], True), (good[0], (None,)), (good[0], ("1",)), {good[0]: good[1]}, "01", good[0], ((0,), (1,)),
                  (good[0], good[1], None), (good[0], ((True,),)), (None,) + good]
        self.assertEqual(explained(BOTH, ["a"], good), row("a"))
        for value in wrongs + ANY_VALUES:
            kept = copy.deepcopy(value)
            for wrong in (value, (value,), good[:1] + (value,), (value,) + good[1:], good + (value,),
                          good[:1] + ((value,),)):
                if not is_record(wrong):
                    self.assertIsNone(explained(BOTH, ["a"], wrong), wrong)
                    self.assertEqual(behind(BOTH, ["a"], wrong), ())
                    self.assertEqual(suspects(BOTH, ["a"], wrong), {})
            self.assertEqual(value, kept)

    def test_one_and_zero_are_no_truths(self):
        for wrong in [((0,),), ((0,), (1,)), ((False,), (1,)), ((0,), (True,))]:
            self.assertIsNone(explained(BOTH, ["a"], wrong))
            self.assertEqual(behind(BOTH, ["a"], wrong), ())
            self.assertEqual(suspects(BOTH, ["a"], wrong), {})

    def test_against_rows_played_one_by_one(self):
        lengths, many = set(), 0
        for seed, (values, plant) in enumerate(made_plants(150, 4, 5)):
            choices, run, line = Choices(seed), Run(plant), []
            for _ in range(choices.below(9)):
                able = run.possible()
                event = choices.one(able) if able else None
                twin = run.copy()
                if event and (twin.do(event) is not None) and not twin.stopped:
                    line.append(event)
                    run.do(event)
            sensors = choices.some(names_of(plant), 4)[choices.below(2):]
            told = reference.seen(values, sensors, tuple(line))
            self.compare(values, plant, sensors, told)
            lengths.add(len(told))
            # Another record that perhaps no row explains.
            at = choices.below(len(told))
            other = told[:at] + (tuple([not truth for truth in told[at]]),) + told[at + 1:]
            many += self.compare(values, plant, sensors, other)
        self.assertGreater(len(lengths), 4)
        self.assertGreater(many, 20)

    def compare(self, values, plant, sensors, told):
        """Whether no row explains a record; the same is told of it as the rows do that were played."""
        wanted = games.explaining(values, sensors, told)
        self.assertEqual(behind(plant, sensors, told), tuple(sorted(wanted)))
        least = min(wanted.values(), key=lambda line: (len(line), line), default=None)
        self.assertEqual(explained(plant, sensors, told), least)
        parts = sorted(name for name, _ in plant.parts)
        words = {(True,): "failed", (False,): "working", (False, True): "open"}
        sure = {part: words[tuple(sorted({part in state[0] for state in wanted}))] for part in parts if wanted}
        self.assertEqual(list(suspects(plant, sensors, told).items()), list(sure.items()))
        return not wanted

    def test_against_all_short_rows(self):
        for values, plant in made_plants(25, 3, 3):
            for sensors in ([], names_of(plant)[:2], names_of(plant)[-2:]):
                least, found = {}, {}
                for line, model in reference.all_rows(values, 4):
                    if not any(reference.told(reference.led(values, line[:many])) for many in range(len(line) + 1)):
                        told = reference.seen(values, sensors, line)
                        least.setdefault(told, line)
                        found.setdefault(told, set()).add(model.state())
                for told in least:
                    self.assertEqual(explained(plant, sensors, told), least[told])
                    self.assertLessEqual(found[told], set(behind(plant, sensors, told)))


def is_record(value):
    """Whether a value is a record by its form, of one sensor."""
    return type(value) is tuple and all(type(item) is tuple and [type(truth) for truth in item] == [bool]
                                        for item in value)


class TestSuspects(unittest.TestCase):
    def test_by_hand(self):
        self.assertEqual(suspects(THREE, ["a"], record("0")), {"a": "working", "b": "open", "c": "open"})
        self.assertEqual(suspects(THREE, ["a"], record("0", "1")), {"a": "failed", "b": "open", "c": "open"})
        self.assertEqual(suspects(THREE, ["a", "b"], record("00", "10", "11")),
                         {"a": "failed", "b": "failed", "c": "working"})
        self.assertEqual(suspects(THREE, [], ((),)), {"a": "open", "b": "open", "c": "open"})

    def test_a_part_that_a_cause_brings_down(self):
        self.assertEqual(suspects(CAUSE, ["a"], record("0", "1")),
                         {"a": "failed", "b": "open", "c": "open", "d": "open"})
        self.assertEqual(suspects(CAUSE, ["a", "d"], record("00", "11")),
                         {"a": "failed", "b": "open", "c": "working", "d": "failed"})

    def test_no_states(self):
        for value in ((), None, record("1"), record("0", "0")):
            self.assertEqual(suspects(THREE, ["a"], value), {})

    def test_keys_are_ascending(self):
        plant = plant_of("zz b a", [("g", "all", ("a", "b", "zz"))])
        self.assertEqual(list(suspects(plant, ["b"], record("0"))), ["a", "b", "zz"])


class TestErrors(unittest.TestCase):
    def refused(self, sensors, index):
        kept = copy.deepcopy(sensors)
        for value in ((), record("0"), None, {"a": []}):
            for call in (explained, behind, suspects):
                with self.assertRaises(NoSensor, msg=sensors) as caught:
                    call(THREE, sensors, value)
                self.assertEqual(caught.exception.index, index)
        self.assertEqual(sensors, kept)

    def test_no_sensor(self):
        for value in ANY_VALUES + ["d", ("a",), ["a"], "ab", ("a", "b")]:
            self.refused([value], 0)
            self.refused(["a", value], 1)
            self.refused(("two", "g", value, value), 2)
        self.refused(["a", "a"], 1)
        self.refused(["g", "a", "two", "g", "d"], 3)

    def test_no_list(self):
        for value in ANY_VALUES + ["a", "ab", {"a": True}]:
            if not isinstance(value, (list, tuple)):
                self.refused(value, 0)


class TestCopies(unittest.TestCase):
    def test_nothing_is_changed(self):
        sensors, told = ["a"], record("0", "1")
        first = suspects(THREE, sensors, told)
        self.assertEqual((sensors, told), (["a"], record("0", "1")))
        first.clear()
        sensors.append("b")
        self.assertEqual(suspects(THREE, ["a"], told), {"a": "failed", "b": "open", "c": "open"})

    def test_always_the_same(self):
        for words in itertools.product(["0", "1"], repeat=3):
            self.assertEqual(behind(THREE, ["b"], record(*words)), behind(THREE, ("b",), record(*words)))


if __name__ == "__main__":
    unittest.main()
