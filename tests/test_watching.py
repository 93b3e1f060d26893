import copy
import itertools
import unittest

from faultorder.errors import NoEvent, NoNumber, NoSensor
from faultorder.plants import Plant
from faultorder.runs import Run
from faultorder.watching import foretold, in_danger, is_foretold, is_unwarned, least_sensors, seen
from tests import reference
from tests.making import ANY_VALUES, Choices, events, made_plants, plant_of, values_of

BOTH = plant_of("a b", [("g", "all", ("a", "b"))])
ANY = plant_of("a b", [("g", "any", ("a", "b"))])
BEFORE = plant_of("a b", [("g", "before", "a", "b")])
NEVER = plant_of("a *s", [("g", "all", ("a", "s"))])
THREE = plant_of("a b c", [("two", "least", 2, ("a", "b", "c")), ("g", "all", ("a", "b", "c"))])
SPARES = plant_of("a *s", [("u", "spare", ("a", "s"))])


def row(text):
    return tuple(events(text))


def behind(plant, text):
    run = Run(plant)
    run.do_all(events(text))
    return run.state


def names_of(plant):
    return [name for name, _ in plant.parts] + [gate[0] for gate in plant.gates]


class TestSeen(unittest.TestCase):
    def told(self, sensors, text):
        """What is seen, as a word of 0 and 1 for each tuple."""
        return ["".join(str(int(value)) for value in show) for show in seen(THREE, sensors, events(text))]

    def test_by_hand(self):
        self.assertEqual(seen(THREE, ["a", "two"], events("a b")), ((False, False), (True, False), (True, True)))
        self.assertEqual(self.told(["a", "two"], "b a"), ["00", "11"])
        self.assertEqual(self.told(["two", "a"], "b c -c a"), ["00", "10", "00", "11"])
        self.assertEqual(self.told(["c"], "a b c -a -c -b c"), ["0", "1", "0", "1"])
        self.assertEqual(self.told(["g", "b", "a"], "a b c -a"), ["000", "001", "011", "111", "010"])

    def test_events_that_are_not_noticed(self):
        self.assertEqual(self.told(["a"], "b c -b b -c"), ["0"])
        self.assertEqual(self.told(["a"], "b a c -c"), ["0", "1"])
        self.assertEqual(self.told(["two"], "a -a b -b"), ["0"])

    def test_no_sensors(self):
        for text in ("", "a", "a b c -a -b"):
            self.assertEqual(seen(THREE, [], events(text)), ((),))
            self.assertEqual(seen(THREE, (), tuple(events(text))), ((),))

    def test_sensors_that_show_nothing(self):
        plant = plant_of("a b *s", [("u", "all", ("a", "s")), ("g", "all", ("a", "b"))])
        self.assertEqual(seen(plant, ["s", "u"], events("a b -a")), ((False, False),))

    def test_at_the_beginning(self):
        plant = plant_of("a", [("u", "spare", ("a",)), ("v", "spare", ("a",)), ("g", "all", ("a",))])
        self.assertEqual(seen(plant, ["v", "u"], []), ((True, False),))
        self.assertEqual(seen(plant, ["v", "a"], events("a -a")), ((True, False), (True, True), (True, False)))

    def test_what_an_event_brings_down_is_seen_at_once(self):
        plant = plant_of("a b", [("g", "all", ("a", "b"))], [("a", ("b",))])
        self.assertEqual(seen(plant, ["a", "b"], events("a")), ((False, False), (True, True)))

    def test_behind_a_stop(self):
        self.assertEqual(self.told(["g"], "a b c -a a"), ["0", "1", "0", "1"])

    def test_truths_are_bools_in_tuples(self):
        told = seen(THREE, ["a"], events("a"))
        self.assertEqual([type(told)] + [type(show) for show in told], [tuple] * 3)
        self.assertEqual([type(value) for show in told for value in show], [bool, bool])

    def test_against_rows_played_one_by_one(self):
        for seed, (values, plant) in enumerate(made_plants(100)):
            choices, run, line = Choices(seed), Run(plant), []
            for _ in range(15):
                if run.possible():
                    line.append(choices.one(run.possible()))
                    run.do(line[-1])
            for many in range(4):
                sensors = list(choices.some(names_of(plant), 4))[:many]
                self.assertEqual(seen(plant, sensors, line), reference.seen(values, sensors, tuple(line)))

    def test_no_event(self):
        for value in ANY_VALUES + [("mend", "a"), ("fail", "two"), ["fail", "a"], ("fail", "a", "b"), "fail a"]:
            for wrong, index in [([value], 0), ([("fail", "a"), value], 1), ((("fail", "b"), ("mend", "b"), value), 2),
                                 ([("fail", "b"), value, value], 1)]:
                if value != ("mend", "a") or index != 1 or wrong[0] != ("fail", "a"):
                    kept = copy.deepcopy(wrong)
                    with self.assertRaises(NoEvent, msg=wrong) as caught:
                        seen(THREE, ["a"], wrong)
                    self.assertEqual((caught.exception.index, wrong), (index, kept))
            if value not in ([], ()):
                with self.assertRaises(NoEvent, msg=value) as caught:
                    seen(THREE, ["a"], value)
                self.assertEqual(caught.exception.index, 0)
        with self.assertRaises(NoEvent) as caught:
            seen(THREE, [], events("a b b"))
        self.assertEqual(caught.exception.index, 2)

    def test_by_name(self):
        self.assertEqual(seen(plant=BOTH, sensors=["a"], events=events("a")), ((False,), (True,)))


class TestErrors(unittest.TestCase):
    def calls(self, sensors, ahead):
        """All calls that take sensors, the value being what it is."""
        yield lambda: foretold(THREE, sensors, ahead=ahead)
        yield lambda: is_foretold(THREE, sensors, None, ahead=ahead)
        yield lambda: is_unwarned(THREE, sensors, None, ahead=ahead)
        yield lambda: least_sensors(THREE, sensors, ahead=ahead)

    def refused(self, sensors, index):
        kept = copy.deepcopy(sensors)
        calls = [lambda: seen(THREE, sensors, []), lambda: seen(THREE, sensors, None)]
        for call in calls + list(self.calls(sensors, 1)) + list(self.calls(sensors, 0)):
            with self.assertRaises(NoSensor, msg=sensors) as caught:
                call()
            self.assertEqual(caught.exception.index, index)
        self.assertEqual(sensors, kept)

    def test_no_sensor(self):
        for value in ANY_VALUES + ["d", ("a",), ["a"], "ab", "A", ("a", "b")]:
            if value != "a":
                self.refused([value], 0)
                self.refused(["a", value], 1)
                self.refused(("two", "g", value, value), 2)
                self.refused(["b", value, "b"], 1)
        self.refused(["a", "a"], 1)
        self.refused(["g", "a", "two", "g", "d"], 3)

    def test_no_list(self):
        for value in ANY_VALUES + ["a", "ab", {"a": True}, None]:
            if not isinstance(value, (list, tuple)):
                self.refused(value, 0)

    def test_no_number(self):
        for ahead in ANY_VALUES + [-1, 0, -10 ** 39, "1", (1,), [1]]:
            if isinstance(ahead, bool) or not isinstance(ahead, int) or ahead < 1:
                kept = copy.deepcopy(ahead)
                calls = list(self.calls(["a"], ahead)) + [lambda: in_danger(THREE, ((), (), ()), ahead=ahead)]
                for call in calls:
                    with self.assertRaises(NoNumber, msg=ahead) as caught:
                        call()
                    self.assertEqual(caught.exception.number, ahead)
                    self.assertIs(type(caught.exception.number), type(ahead))
                self.assertEqual(ahead, kept)

    def test_ahead_stands_behind_a_star(self):
        for call in (lambda: foretold(THREE, [], 1), lambda: least_sensors(THREE, [], 1),
                     lambda: in_danger(THREE, ((), (), ()), 1), lambda: is_foretold(THREE, [], (), 1),
                     lambda: is_unwarned(THREE, [], (), 1)):
            self.assertRaises(TypeError, call)


class TestInDanger(unittest.TestCase):
    def test_by_hand(self):
        for text, ahead, told in [("", 1, False), ("", 2, False), ("", 3, True), ("", 4, True), ("a", 1, False),
                                  ("a", 2, True), ("a b", 1, True), ("a b", 2, True), ("a b c", 1, False),
                                  ("a b c", 8, False), ("a b c -a", 1, True), ("a b -a", 1, False),
                                  ("", 10 ** 39, True)]:
            self.assertIs(in_danger(THREE, behind(THREE, text), ahead=ahead), told, (text, ahead))
        for text, told in [("", False), ("a", False), ("a b", True), ("a b c", False)]:
            self.assertIs(in_danger(THREE, behind(THREE, text)), told)

    def test_no_failures_stop_it(self):
        for text in ("", "a", "a -a"):
            self.assertIs(in_danger(NEVER, behind(NEVER, text), ahead=8), False)
        for text, told in [("b", False), ("b a", False), ("b a -b", True), ("a", True)]:
            self.assertIs(in_danger(BEFORE, behind(BEFORE, text), ahead=8), told)

    def test_against_rows_played_one_by_one(self):
        for values, plant in made_plants(40, 4, 6):
            for state, line in reference.Graph(values).rows.items():
                model = reference.led(values, line)
                for ahead in (1, 2, 3):
                    self.assertIs(in_danger(plant, state, ahead=ahead), reference.is_near(model, ahead))

    def test_by_name(self):
        self.assertIs(in_danger(plant=BOTH, state=(("a",), (), ()), ahead=1), True)


class TestForetold(unittest.TestCase):
    def test_the_example_of_the_document(self):
        self.assertEqual(foretold(BOTH, ["a"]), ("unwarned", row("b"), ()))

    def test_all_parts_as_sensors(self):
        states = [(tuple(parts), (), ()) for parts in ("", "a", "b")]
        word, relation = foretold(BOTH, ["b", "a"])
        self.assertEqual((word, len(relation), set(relation)), ("foretold", 3, {(one, one) for one in states}))
        self.assertIsInstance(relation, tuple)

    def test_a_plant_that_its_first_failure_stops(self):
        # It is always in danger of the next failure.
        start = ((), (), ())
        for sensors in ([], ["a"], ["g"], ["a", "b", "g"]):
            self.assertEqual(foretold(ANY, sensors), ("foretold", ((start, start),)))

    def test_a_plant_that_never_stops(self):
        states = [((), (), ()), (("a",), (), ())]
        word, relation = foretold(NEVER, [])
        self.assertEqual((word, len(relation)), ("foretold", 4))
        self.assertEqual(set(relation), {(one, other) for one in states for other in states})
        self.assertEqual(set(foretold(NEVER, ["a"])[1]), {(one, one) for one in states})

    def test_no_sensors(self):
        word, one, other = foretold(BOTH, [])
        self.assertEqual((word, len(one) + len(other)), ("unwarned", 1))
        # Two failures can stop it always.
        word, relation = foretold(BOTH, [], ahead=2)
        self.assertEqual((word, len(relation)), ("foretold", 9))

    def test_none_is_passed(self):
        self.assertEqual(foretold(BOTH, []), foretold(BOTH, [], ahead=1))
        self.assertEqual(least_sensors(BOTH, ["a", "b"]), least_sensors(BOTH, ["a", "b"], ahead=1))
        self.assertIs(is_foretold(BOTH, [], foretold(BOTH, [], ahead=2)[1]), False)
        self.assertIs(is_unwarned(BOTH, [], (row("b"), ())), True)

    def test_more_ahead(self):
        self.assertEqual([foretold(THREE, [], ahead=ahead)[0] for ahead in (1, 2, 3, 8)],
                         ["unwarned", "unwarned", "foretold", "foretold"])
        self.assertEqual([foretold(THREE, ["a"], ahead=ahead)[0] for ahead in (1, 2, 3)],
                         ["unwarned", "unwarned", "foretold"])
        self.assertEqual([foretold(THREE, ["two"], ahead=ahead)[0] for ahead in (1, 2)], ["foretold", "foretold"])
        self.assertEqual(foretold(THREE, ["a", "b"], ahead=1)[0], "unwarned")
        self.assertEqual(foretold(THREE, ["a", "b"], ahead=2)[0], "foretold")

    def test_danger_is_never_seen_wrongly(self):
        # a shows the danger of the next failure, but it shows it behind the failure of b and a, too, wrongly.
        self.assertEqual(foretold(BEFORE, ["a"]), ("unwarned", row("a"), row("b a")))

    def test_the_rows_go_on_as_long_as_the_plant(self):
        # Behind its stop c would show the same of both; but that is too late.
        plant = plant_of("a b c", [("x", "any", ("a", "c")), ("g", "any", ("b", "c"))])
        word, relation = foretold(plant, ["x"])
        self.assertEqual(word, "foretold")
        self.assertEqual({state for pair in relation for state in pair}, {((), (), ()), (("a",), (), ())})
        self.assertEqual(len(relation), 2)

    def test_mends_are_not_noticed_either(self):
        # Behind the mend of a the gate goes on with s, and nothing but a and u is shown.
        for sensors in ([], ["u"]):
            self.assertEqual(foretold(SPARES, sensors), ("unwarned", row("a"), ()))
        self.assertEqual(foretold(SPARES, ["a"])[0], reference_word(SPARES, ["a"], 1))

    def test_what_is_seen_of_rows_of_different_length(self):
        # b comes and goes while x shows nothing but whether a is down.
        plant = plant_of("a b c", [("y", "all", ("a", "b")), ("g", "all", ("y", "c"))])
        word, one, other = foretold(plant, ["a", "c"])
        self.assertEqual((word, len(one), len(other)), ("unwarned", 2, 1))
        self.assertEqual(seen(plant, ["a", "c"], one), seen(plant, ["a", "c"], other))

    def test_against_rows_played_one_by_one(self):
        words = {"foretold": 0, "unwarned": 0}
        lengths = set()
        for seed, (values, plant) in enumerate(made_plants(110, 3, 5)):
            choices = Choices(seed)
            for many in (0, 1, 2, 3):
                sensors = list(choices.some(names_of(plant), 3))[:many]
                ahead = 1 + choices.below(2)
                told = foretold(plant, sensors, ahead=ahead)
                words[told[0]] += 1
                self.check(values, plant, sensors, ahead, told)
                if told[0] == "unwarned":
                    lengths.add(len(told[1]) + len(told[2]))
        self.assertGreater(min(words.values()), 50)
        self.assertGreater(len(lengths), 3)

    def check(self, values, plant, sensors, ahead, told):
        length = 6
        pairs = reference.looking_same(values, sensors, length)
        # Some pairs are led to by long rows only.
        while told[0] == "foretold" and len(pairs) < len(told[1]) and length < 14:
            length += 2
            pairs = reference.looking_same(values, sensors, length)
        least = reference.missed(values, pairs, ahead)
        if told[0] == "unwarned":
            self.assertIs(is_unwarned(plant, sensors, told[1:], ahead=ahead), True)
            # The rows that were played are long enough to have those with so few events among them.
            many = len(told[1]) + len(told[2])
            self.assertIsNotNone(least)
            self.assertEqual(many, least)
        else:
            self.assertIsNone(least)
            self.assertEqual(len(told[1]), len(set(told[1])))
            self.assertEqual(set(told[1]), set(pairs))
            self.assertIs(is_foretold(plant, sensors, told[1], ahead=ahead), True)
            self.assertIs(is_foretold(plant, sensors, told[1][::-1], ahead=ahead), True)

    def test_always_the_same(self):
        for plant, sensors in [(BOTH, ["a"]), (THREE, ["two"]), (BEFORE, ["a"])]:
            self.assertEqual(foretold(plant, sensors), foretold(plant, tuple(sensors)))

    def test_by_name(self):
        told = foretold(plant=BOTH, sensors=["a", "b"], ahead=1)
        self.assertIs(is_foretold(plant=BOTH, sensors=["a", "b"], value=told[1], ahead=1), True)
        self.assertIs(is_unwarned(plant=BOTH, sensors=["a"], value=(row("b"), ()), ahead=1), True)
        self.assertEqual(least_sensors(plant=BOTH, names=["a", "b"], ahead=1), [("a", "b")])


def reference_word(plant, sensors, ahead):
    values = values_of(plant)
    least = reference.missed(values, reference.looking_same(values, sensors, 6), ahead)
    return "foretold" if least is None else "unwarned"


class TestIsForetold(unittest.TestCase):
    def test_one_pair_more_or_less_or_twice_or_exchanged(self):
        for plant, sensors, ahead, text in [(BOTH, ["a", "b"], 1, "a b"), (BOTH, [], 2, "a b"), (SPARES, [], 2, "a s"),
                                            (THREE, ["two"], 1, "a b c"), (NEVER, [], 1, "a"), (ANY, [], 1, "a")]:
            relation = foretold(plant, sensors, ahead=ahead)[1]
            self.assertIs(is_foretold(plant, sensors, relation, ahead=ahead), True)
            stop = behind(plant, text)
            for at, (one, other) in enumerate(relation):
                rest = relation[:at] + relation[at + 1:]
                wrongs = [rest, relation + (relation[at],), rest + (relation[at - 1],) if rest else (),
                          list(relation), rest + ([one, other],), rest + ((one,),), rest + ((one, other, other),),
                          rest + ((list(one), other),), rest + ((one, (list(other[0]),) + other[1:]),),
                          rest + (((one, other), 1),), rest + ({one: other},), rest + (one,), rest + ((True, other),)]
                if (stop, stop) not in relation:
                    wrongs.extend([relation + ((stop, stop),), rest + ((one, stop),)])
                for wrong in wrongs:
                    self.assertIs(is_foretold(plant, sensors, wrong, ahead=ahead), False, wrong)
                if (other, one) not in rest and one != other:
                    self.assertIs(is_foretold(plant, sensors, rest + ((other, one),), ahead=ahead), False)

    def test_other_sensors(self):
        relation = foretold(BOTH, [], ahead=2)[1]
        self.assertIs(is_foretold(BOTH, ["a"], relation, ahead=2), False)
        self.assertIs(is_foretold(BOTH, ["g"], relation, ahead=2), True)

    def test_plants_that_are_unwarned(self):
        states = [(tuple(parts), (), ()) for parts in ("", "a", "b")]
        every = [(one, other) for one in states for other in states]
        for sensors in ([], ["a"], ["g"]):
            for many in range(len(every) + 1):
                for value in itertools.combinations(every, many):
                    self.assertIs(is_foretold(BOTH, sensors, value), False)

    def test_any_value(self):
        relation = foretold(BOTH, ["a", "b"])[1]
        for value in ANY_VALUES + [("foretold", relation), dict.fromkeys(relation)]:
            kept = copy.deepcopy(value)
            for wrong in (value, (value,), relation[:-1] + (value,), relation[:-1] + ((value, relation[-1][1]),)):
                self.assertIs(is_foretold(BOTH, ["a", "b"], wrong), False)
            self.assertEqual(value, kept)


class TestIsUnwarned(unittest.TestCase):
    def told(self, one, other, sensors=("a",), plant=BOTH, ahead=1):
        return is_unwarned(plant, list(sensors), (row(one), row(other)), ahead=ahead)

    def test_by_hand(self):
        for one, other, told in [("b", "", True), ("", "b", False), ("b", "b", False), ("", "", False), ("a", "", False),
                                 ("b -b b", "b -b", True), ("a -a b", "", False), ("a -a b", "a -a", True),
                                 ("b", "a -a", False), ("a -a b", "b -b a -a", True), ("b -b", "", False)]:
            self.assertIs(self.told(one, other), told, (one, other))

    def test_no_stop_behind_any_beginning(self):
        for one, other in [("b a -a", "a b -b"), ("a b -a", ""), ("b a -a", ""), ("b", "a b -b -a"), ("a b -a", "a -a")]:
            self.assertIs(self.told(one, other, sensors=()), False)
        self.assertIs(self.told("b", "a -a", sensors=()), True)
        # The second row itself ends with a stop.
        self.assertIs(self.told("a", "a b", sensors=("a",)), False)

    def test_the_same_is_seen(self):
        self.assertIs(self.told("b", "", sensors=("a", "g")), True)
        self.assertIs(self.told("b", "", sensors=("b",)), False)
        self.assertIs(self.told("b", "", sensors=("a", "b")), False)
        self.assertIs(self.told("b -b b", "b -b", sensors=("b",)), False)

    def test_ahead(self):
        self.assertIs(self.told("a b", "", ("c",), THREE, 2), True)
        self.assertIs(self.told("a b", "a", ("c",), THREE, 1), True)
        self.assertIs(self.told("a b", "a", ("c",), THREE, 2), False)
        self.assertIs(self.told("a b", "", ("c",), THREE, 3), False)
        self.assertIs(self.told("a", "", ("c",), THREE, 2), False)

    def test_wrong_rows(self):
        for one, other in [("b b", ""), ("b", "-a"), ("c", ""), ("g", ""), ("b", "c"), ("-b", ""), ("b", "a a")]:
            self.assertIs(self.told(one, other), False)

    def test_lists_and_other_values(self):
        good = (row("b"), ())
        self.assertIs(is_unwarned(BOTH, ["a"], good), True)
        wrongs = [list(good), (list(good[0]), ()), (good[0], []), (([*good[0][0]],), ()), good + ((),), good[:1], good[0],
                  (), (good,), {good[0]: ()}, (good[0], None), (("fail", "b"), ()), ((("fail", "b", "b"),), ()),
                  ((("fail", ["b"]),), ()), (good[0], ""), ("unwarned",) + good, (good[0], {})]
        for value in wrongs + ANY_VALUES:
            kept = copy.deepcopy(value)
            self.assertIs(is_unwarned(BOTH, ["a"], value), False, value)
            self.assertIs(is_unwarned(BOTH, ["a"], (good[0], value)), value == ())
            self.assertIs(is_unwarned(BOTH, ["a"], (value, ())), value == good[0])
            self.assertIs(is_unwarned(BOTH, ["a"], (good[0] + (value,), ())), False)
            self.assertEqual(value, kept)

    def test_against_rows_played_one_by_one(self):
        told = {True: 0, False: 0}
        for seed, (values, plant) in enumerate(made_plants(60, 3, 5)):
            choices = Choices(seed)
            rows = [line for line, _ in reference.all_rows(values, 3)]
            for _ in range(25):
                sensors, ahead = choices.some(names_of(plant), 2)[choices.below(2):], 1 + choices.below(2)
                one, other = choices.one(rows), choices.one(rows)
                stopped = any(reference.told(reference.led(values, line[:many])) for line in (one, other)
                              for many in range(len(line) + 1))
                wanted = (not stopped and reference.seen(values, sensors, one) == reference.seen(values, sensors, other)
                          and reference.is_near(reference.led(values, one), 1)
                          and not reference.is_near(reference.led(values, other), ahead))
                self.assertIs(is_unwarned(plant, sensors, (one, other), ahead=ahead), wanted)
                told[wanted] += 1
        self.assertGreater(told[True], 10)


class TestLeastSensors(unittest.TestCase):
    def test_by_hand(self):
        self.assertEqual(least_sensors(BOTH, ["b", "g", "a"]), [("a", "b")])
        self.assertEqual(least_sensors(THREE, ["two", "c", "b", "a"]), [("two",), ("a", "b", "c")])
        self.assertEqual(least_sensors(THREE, ["c", "b", "a"], ahead=2), [("a", "b"), ("a", "c"), ("b", "c")])
        self.assertEqual(least_sensors(THREE, ["c", "b", "a"], ahead=3), [()])

    def test_none(self):
        for names in ([], ["a"], ["g"], ["b", "g"]):
            self.assertEqual(least_sensors(BOTH, names), [])

    def test_no_sensor_is_needed(self):
        for plant in (NEVER, ANY):
            for names in ([], ["a"], ["g", "a"]):
                self.assertEqual(least_sensors(plant, names), [()])

    def test_tuples_are_ascending_whatever_the_order_of_the_names(self):
        for names in itertools.permutations(["a", "b", "c", "two"]):
            self.assertEqual(least_sensors(THREE, names), [("two",), ("a", "b", "c")])

    def test_by_length_then_ascending(self):
        plant = plant_of("a b c d", [("x", "any", ("a", "b")), ("y", "any", ("c", "d")), ("g", "all", ("x", "y"))])
        told = least_sensors(plant, ["y", "a", "x", "b", "g", "c"])
        self.assertEqual(told, sorted(told, key=lambda sensors: (len(sensors), sensors)))
        self.assertEqual(told, [("x", "y"), ("a", "b", "y")])

    def test_against_all_tuples(self):
        found = set()
        for seed, (_, plant) in enumerate(made_plants(60, 4, 4)):
            choices = Choices(seed)
            names, ahead = choices.some(names_of(plant), 5), 1 + choices.below(2)
            enough = [chosen for many in range(len(names) + 1) for chosen in itertools.combinations(sorted(names), many)
                      if foretold(plant, chosen, ahead=ahead)[0] == "foretold"]
            wanted = [chosen for chosen in enough
                      if not any(chosen[:at] + chosen[at + 1:] in enough for at in range(len(chosen)))]
            self.assertEqual(least_sensors(plant, names, ahead=ahead), wanted)
            found |= {len(chosen) for chosen in wanted}
        self.assertGreater(len(found), 1)

    def test_what_is_returned_is_new(self):
        names = ["b", "a"]
        told = least_sensors(BOTH, names)
        told.clear()
        self.assertEqual((least_sensors(BOTH, names), names), ([("a", "b")], ["b", "a"]))

    def test_five_parts(self):
        names = "abcde"
        gates = [("w" + name, "before", name, names[(at + 1) % 5]) for at, name in enumerate(names)]
        plant = Plant([(name, "hot") for name in names], gates + [("top", "all", tuple(names))], [], "top")
        self.assertEqual(least_sensors(plant, ["a", "b", "c", "d", "e", "wa"]), [tuple("abcde")])
        self.assertEqual(least_sensors(plant, ["e", "wa", "wb", "wc", "wd", "we"]), [])


class TestCopies(unittest.TestCase):
    def test_nothing_is_changed(self):
        sensors, line = ["a", "b"], events("a")
        first = (seen(BOTH, sensors, line), foretold(BOTH, sensors), least_sensors(BOTH, sensors))
        self.assertEqual((sensors, line), (["a", "b"], events("a")))
        sensors.clear()
        line.clear()
        self.assertEqual(first[0], ((False, False), (True, False)))
        self.assertEqual((seen(BOTH, ["a", "b"], events("a")), foretold(BOTH, ["a", "b"]),
                          least_sensors(BOTH, ["a", "b"])), first)


if __name__ == "__main__":
    unittest.main()
