import copy
import inspect
import unittest

from faultorder.errors import BadMachine, NoEvent, TooMany
from faultorder.machines import Machine, machine_of
from faultorder.plants import Plant
from faultorder.runs import Run
from faultorder.states import reached
from tests import reference
from tests.making import ANY_VALUES, Choices, events, made_plants, plant_of, values_of

FA, FB, MA, MB = ("fail", "a"), ("fail", "b"), ("mend", "a"), ("mend", "b")
# The machine of "a fails before b".
PARTS = ("a", "b")
ROWS = ((False, ((FA, 1), (FB, 2))), (False, ((FB, 3), (MA, 0))), (False, ((FA, 4), (MB, 0))),
        (True, ((MA, 2), (MB, 1))), (False, ((MA, 2), (MB, 1))))
BEFORE = plant_of("a b", [("g", "before", "a", "b")])


class TestMachine(unittest.TestCase):
    def accepted(self, parts, rows):
        machine = Machine(parts, rows)
        self.assertEqual((machine.parts, machine.rows, len(machine)), (parts, rows, len(rows)))

    def refused(self, parts, rows):
        kept = copy.deepcopy((parts, rows))
        with self.assertRaises(BadMachine, msg=(parts, rows)):
            Machine(parts, rows)
        self.assertEqual((parts, rows), kept)

    def test_what_is_documented(self):
        self.accepted(PARTS, ROWS)
        self.accepted(("a",), ((False, ()),))
        self.accepted(("a",), ((True, ()),))
        self.accepted(tuple("abcdefgh"), ((True, ((("fail", "h"), 0), (("mend", "a"), 0))),))
        self.accepted(("a", "aa", "ab", "zzzzzz"), ((False, ((("mend", "zzzzzz"), 0),)),))
        # Nothing is asked of how the rows are reached or alike.
        self.accepted(("a", "b"), ((False, ((FA, 2),)), (False, ((FA, 2),)), (True, ()), (True, ())))
        self.accepted(("a",), ((False, ((FA, 0), (MA, 0))),))

    def test_parts(self):
        row = ((False, ()),)
        for parts in [(), ["a"], ["a", "b"], ("b", "a"), ("a", "a"), ("a", "b", "b"), tuple("abcdefghi"), ("A",),
                      ("abcdefg",), ("a1",), ("",), ("a", 1), (1,), (("a", "hot"),), "a", "ab", {"a": 1}, (None, "a"),
                      ("a", None), ("a", ["b"]), (True,)]:
            self.refused(parts, row)
        self.refused(tuple("abcdefghi"), row)

    def test_rows(self):
        self.refused(PARTS, ())
        self.refused(PARTS, list(ROWS))
        self.refused(PARTS, dict.fromkeys(ROWS))
        step = (FA, 0)
        for row in [[False, ()], (False,), (False, (), ()), ((), False), (False, [step]), (False, step), (0, ()),
                    (1, ()), (None, ()), ("", ()), (False, None), (False, {FA: 0}), (False, ((),)), (False, (FA,)),
                    (False, ([FA, 0],)), (False, ((FA, 0, 0),)), (False, ((FA,),)), (False, ((0, FA),)),
                    (False, ((["fail", "a"], 0),)), (False, ((("fail", "c"), 0),)), (False, ((("fall", "a"), 0),)),
                    (False, ((("a", "fail"), 0),)), (False, ((("fail",), 0),)), (False, ((("fail", "a", "b"), 0),)),
                    (False, ((("fail", ("a",)), 0),)), (False, (("fail a", 0),)), (False, ((FA, True),)),
                    (False, ((FA, False),)), (False, ((FA, -1),)), (False, ((FA, 2),)), (False, ((FA, "0"),)),
                    (False, ((FA, None),)), (False, ((FA, (0,)),)), (False, (step, step)), (False, ((FB, 0), (FA, 0))),
                    (False, ((MA, 0), (FA, 0))), (False, ((FA, 0), (FA, 1))), (False, ((FA, 0), (MA, 1), (FB, 0)))]:
            self.refused(PARTS, (row, (True, ())))
            self.refused(PARTS, ((True, ()), row))

    def test_any_value(self):
        names = [("a",), ("fail",), ("a", "hot"), ("fail", "zz")]
        for value in ANY_VALUES:
            if value not in names:
                self.refused(value, ((False, ()),))
            if not isinstance(value, bool):
                self.refused(PARTS, ((value, ()),))
            if value != ():
                self.refused(PARTS, ((False, value),))
            if value != 0 or isinstance(value, bool):
                self.refused(PARTS, ((False, ((FA, value),)),))
            self.refused(PARTS, value)
            self.refused(PARTS, (value,))
            self.refused(PARTS, ((False, (value,)),))
            self.refused(PARTS, ((False, ((value, 0),)),))
            self.refused(("b", value), ((False, ()),))
        for parts in names:
            self.accepted(parts, ((False, ()),))

    def test_one_place_at_a_time(self):
        for at, (stopped, steps) in enumerate(ROWS):
            for wrong in [(int(stopped), steps), (stopped, list(steps)), (stopped, steps[::-1]), (stopped, steps * 2),
                          [stopped, steps], (stopped, ((steps[0][0], 5),) + steps[1:]),
                          (stopped, ((steps[0][0], bool(steps[0][1])),) + steps[1:]),
                          (stopped, ((list(steps[0][0]), 0),) + steps[1:])]:
                self.refused(PARTS, ROWS[:at] + (wrong,) + ROWS[at + 1:])
            self.accepted(PARTS, ROWS[:at] + ((not stopped, steps),) + ROWS[at + 1:])
            self.accepted(PARTS, ROWS[:at] + ((stopped, steps[:1]),) + ROWS[at + 1:])
        self.refused(PARTS, ROWS[:-1])
        self.refused(("a", "c"), ROWS)

    def test_equal_machines(self):
        machine = Machine(PARTS, ROWS)
        self.assertTrue(machine == Machine(PARTS, ROWS))
        self.assertFalse(machine != Machine(PARTS, ROWS))
        others = [Machine(("a", "b", "c"), ROWS), Machine(PARTS, ROWS + ((True, ()),)),
                  Machine(PARTS, ((True,) + ROWS[0][1:],) + ROWS[1:]),
                  Machine(PARTS, ROWS[:3] + (ROWS[3][:1] + (((MA, 2), (MB, 2)),),) + ROWS[4:])]
        for other in others + [(PARTS, ROWS), ROWS, BEFORE] + ANY_VALUES:
            self.assertFalse(machine == other)
            self.assertTrue(machine != other)

    def test_by_name(self):
        machine = Machine(parts=PARTS, rows=ROWS)
        self.assertEqual(machine.play(events=[FA, FB]), [False, True])
        self.assertEqual(machine_of(plant=BEFORE, most=5), machine)
        with self.assertRaises(TypeError):
            machine_of(BEFORE, 5)


class TestPlay(unittest.TestCase):
    def setUp(self):
        self.machine = Machine(PARTS, ROWS)

    def test_by_hand(self):
        for row, told in [("", []), ("a", [False]), ("a b", [False, True]), ("b a", [False, False]),
                          ("a b -a a", [False, True, False, False]), ("a b -b b", [False, True, False, True])]:
            self.assertEqual(self.machine.play(events(row)), told)
            self.assertEqual(self.machine.play(tuple(events(row))), told)
        self.assertEqual({value for value in self.machine.play(events("a b -a"))}, {False, True})
        self.assertTrue(all(isinstance(value, bool) for value in self.machine.play(events("a b -a"))))

    def test_it_begins_anew_each_time(self):
        told = self.machine.play([FA])
        told.append(True)
        self.assertEqual(self.machine.play([FA]), [False])

    def test_sixty_events(self):
        self.assertEqual(self.machine.play(events("a b -a -b") * 15), [False, True, False, False] * 15)

    def refused(self, value, index):
        kept = copy.deepcopy(value)
        with self.assertRaises(NoEvent, msg=value) as caught:
            self.machine.play(value)
        self.assertEqual(caught.exception.index, index)
        self.assertEqual(value, kept)

    def test_what_the_row_does_not_allow(self):
        for wrong in ANY_VALUES + [MB, MA, ("fail", "c"), ["fail", "a"], ("fail", "a", "b"), "fail a", (FA, 1)]:
            self.refused([wrong], 0)
            self.refused([wrong, wrong], 0)
            self.refused([FA, MA, wrong, FA], 2)
            self.refused((FA, FB, MA, MB, wrong), 4)
        self.refused([FA, FA], 1)

    def test_what_is_no_list(self):
        for value in ANY_VALUES + ["fail", FA, {FA: 1}]:
            if value not in ([], ()):
                self.refused(value, 0)


class TestSmallest(unittest.TestCase):
    def test_it_is_the_smallest_itself(self):
        machine = Machine(PARTS, ROWS)
        self.assertEqual(machine.smallest(), machine)
        self.assertIsInstance(machine.smallest(), Machine)

    def test_one_row(self):
        for rows in [((False, ()),), ((True, ((FA, 0), (MB, 0))),)]:
            self.assertEqual(Machine(PARTS, rows).smallest(), Machine(PARTS, rows))

    def test_rows_that_are_never_reached(self):
        rows = ((False, ((FA, 2),)), (True, ((FB, 0),)), (False, ((MA, 0),)), (True, ()))
        self.assertEqual(Machine(PARTS, rows).smallest().rows, ((False, ((FA, 1),)), (False, ((MA, 0),))))

    def test_rows_that_are_alike(self):
        rows = ((False, ((FA, 1), (FB, 2))), (True, ((MA, 3),)), (True, ((MA, 0),)), (False, ((FA, 2), (FB, 1))))
        self.assertEqual(Machine(PARTS, rows).smallest().rows, ((False, ((FA, 1), (FB, 1))), (True, ((MA, 0),))))

    def test_rows_that_are_alike_but_for_the_stop(self):
        rows = ((False, ((FA, 1),)), (True, ((FA, 0),)))
        self.assertEqual(Machine(PARTS, rows).smallest().rows, rows)
        rows = ((False, ((FA, 1),)), (False, ((FA, 0),)))
        self.assertEqual(Machine(PARTS, rows).smallest().rows, ((False, ((FA, 0),)),))

    def test_rows_that_differ_late(self):
        # A chain of rows that tells its end only behind its last event, and a second one that stops there.
        chain = tuple([(False, ((FA, at + 1),)) for at in range(1, 10)])
        other = tuple([(False, ((FA, at + 1),)) for at in range(11, 20)])
        rows = ((False, ((FA, 1), (FB, 11))),) + chain + ((False, ()),) + other + ((True, ()),)
        self.assertEqual(len(rows), 21)
        self.assertEqual(len(Machine(PARTS, rows).smallest()), 21)
        rows = rows[:-1] + ((False, ()),)
        self.assertEqual(len(Machine(PARTS, rows).smallest()), 11)

    def test_the_order_of_the_rows(self):
        rows = ((False, ((FA, 3), (FB, 1))), (False, ((FA, 2), (MB, 0))), (True, ((MA, 1),)), (False, ((FB, 4),)),
                (True, ((MB, 3), )))
        self.assertEqual(Machine(PARTS, rows).smallest().rows,
                         ((False, ((FA, 1), (FB, 2))), (False, ((FB, 3),)), (False, ((FA, 4), (MB, 0))),
                          (True, ((MB, 1),)), (True, ((MA, 2),))))

    def test_the_machine_stays_as_it_is(self):
        rows = ((False, ((FA, 1),)), (False, ((FA, 0),)))
        machine = Machine(PARTS, rows)
        machine.smallest()
        self.assertEqual((machine.parts, machine.rows), (PARTS, rows))

    def made_machine(self, seed):
        """A machine with rows in disorder, some of which are alike or never reached."""
        choices = Choices(seed)
        many = 1 + choices.below(12)
        kinds = [tuple(sorted(set(choices.some([FA, FB, MA, MB], 3)))) for _ in range(2)]
        rows = []
        for _ in range(many):
            steps = tuple([(event, choices.below(many)) for event in choices.one(kinds)])
            rows.append((choices.below(4) == 0, steps))
        return Machine(PARTS, tuple(rows))

    def test_made_machines(self):
        smaller = 0
        for seed in range(300):
            machine = self.made_machine(seed)
            least = machine.smallest()
            self.check_the_same(machine, least)
            self.check_least(least)
            smaller += len(least) < len(machine)
        self.assertGreater(smaller, 50)

    def check_the_same(self, machine, least):
        """Both allow the same rows, with the same stops: seen by the pairs that they are led to."""
        self.assertEqual(machine.parts, least.parts)
        pairs = [(0, 0)]
        for one, other in pairs:
            (stopped, steps), (stopped_too, steps_too) = machine.rows[one], least.rows[other]
            self.assertEqual((stopped, [event for event, _ in steps]), (stopped_too, [event for event, _ in steps_too]))
            for (_, index), (_, index_too) in zip(steps, steps_too):
                if (index, index_too) not in pairs:
                    pairs.append((index, index_too))

    def check_least(self, least):
        order = [0]
        for index in order:
            order.extend([behind for at, (_, behind) in enumerate(least.rows[index][1]) if behind not in order
                          and behind not in [other for _, other in least.rows[index][1][:at]]])
        self.assertEqual(order, list(range(len(least))))
        alike = {(one, other) for one in order for other in order}
        for _ in order:
            alike = {(one, other) for one, other in alike if self.are_alike(least.rows, alike, one, other)}
        self.assertEqual(alike, {(index, index) for index in order})

    def are_alike(self, rows, alike, one, other):
        (stopped, steps), (stopped_too, steps_too) = rows[one], rows[other]
        return (stopped == stopped_too and [event for event, _ in steps] == [event for event, _ in steps_too]
                and all((behind, too) in alike for (_, behind), (_, too) in zip(steps, steps_too)))


class TestMachineOf(unittest.TestCase):
    def test_by_hand(self):
        self.assertEqual((machine_of(BEFORE).parts, machine_of(BEFORE).rows), (PARTS, ROWS))

    def test_the_parts_are_ascending(self):
        plant = plant_of("bb a *c", [("g", "all", ("a", "bb"))])
        self.assertEqual(machine_of(plant).parts, ("a", "bb", "c"))

    def test_states_that_are_alike(self):
        # Which of both failed first is told by a gate that nothing asks for.
        plant = plant_of("a b", [("w", "before", "a", "b"), ("g", "all", ("a", "b"))])
        self.assertEqual((len(reached(plant)), len(machine_of(plant))), (5, 4))

    def test_a_plant_that_nothing_happens_to(self):
        self.assertEqual(machine_of(plant_of("*a", [("g", "all", ("a",))])).rows, ((False, ()),))

    def test_a_plant_that_never_stops(self):
        plant = plant_of("a *s", [("g", "all", ("a", "s"))])
        self.assertEqual(machine_of(plant).rows, ((False, ((FA, 1),)), (False, ((MA, 0),))))

    def test_against_rows_played_one_by_one(self):
        for values, plant in made_plants(80, 4, 5):
            graph = reference.Graph(values)
            machine = machine_of(plant)
            indexes = {graph.start(): 0}
            for state in graph.rows:
                stopped, steps = machine.rows[indexes[state]]
                self.assertEqual((stopped, [event for event, _ in steps]),
                                 (graph.stopped[state], sorted(graph.steps[state])))
                for event, index in steps:
                    behind = graph.steps[state][event]
                    self.assertEqual(indexes.setdefault(behind, index), index)
            unlike = reference.unlike(graph)
            for one in graph.rows:
                for other in graph.rows:
                    self.assertEqual((one, other) in unlike, indexes[one] != indexes[other])
            self.assertEqual(machine.smallest(), machine)

    def test_it_plays_as_the_plant(self):
        for seed, (_, plant) in enumerate(made_plants(60)):
            run, choices, row, told = Run(plant), Choices(seed), [], []
            machine = machine_of(plant, most=10 ** 9)
            for _ in range(30):
                self.assertEqual([event for event, _ in machine.rows[0][1]], Run(plant).possible())
                if run.possible():
                    row.append(choices.one(run.possible()))
                    run.do(row[-1])
                    told.append(run.stopped)
            self.assertEqual(machine.play(row), told)

    def test_most(self):
        for plant in (BEFORE, plant_of("a b", [("w", "before", "a", "b"), ("g", "all", ("a", "b"))])):
            # The states are counted, not the rows.
            for most in (-1, 0, 4):
                with self.assertRaises(TooMany) as caught:
                    machine_of(plant, most=most)
                self.assertEqual(caught.exception.most, most)
            self.assertEqual(machine_of(plant, most=5), machine_of(plant))
            self.assertEqual(machine_of(plant, most=6), machine_of(plant))
        self.assertEqual(inspect.signature(machine_of).parameters["most"].default, 2000)
        names = "abcdefgh"
        gates = [("w" + name, "before", name, names[(at + 1) % 8]) for at, name in enumerate(names)]
        ring = Plant([(name, "hot") for name in names], gates, [], "wa")
        with self.assertRaises(TooMany) as caught:
            machine_of(ring)
        self.assertEqual(caught.exception.most, 2000)
        self.assertEqual(len(machine_of(ring, most=2205)), 320)

    def test_plants_that_are_written_in_another_order(self):
        one = plant_of("a b c", [("x", "any", ("a", "b")), ("g", "all", ("x", "c"))])
        other = plant_of("c b a", [("q", "before", "c", "a"), ("z", "least", 2, ("q", "c")), ("y", "all", ("b", "c")),
                                   ("x", "all", ("a", "c")), ("h", "any", ("x", "y"))])
        self.assertEqual(machine_of(one), machine_of(other))
        self.assertEqual(values_of(one)[0], (("a", "hot"), ("b", "hot"), ("c", "hot")))


if __name__ == "__main__":
    unittest.main()
