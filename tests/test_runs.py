import copy
import itertools
import unittest

from faultorder.errors import NoEvent
from faultorder.plants import Plant
from faultorder.runs import Run, at
from tests.making import ANY_VALUES, Choices, events, fails, made_plants, plant_of
from tests.model import Model


def shown(run):
    """All that can be asked of a run."""
    return run.plant, run.state, run.stopped, run.truths(), run.possible()


class TestBeginning(unittest.TestCase):
    def test_all_parts_work(self):
        run = Run(plant_of("b a *c", [("g", "all", ("a", "b"))]))
        self.assertEqual(run.state, ((), (), ()))
        self.assertIs(run.stopped, False)
        self.assertEqual(run.truths(), {"a": False, "b": False, "c": False, "g": False})
        self.assertEqual(run.possible(), [("fail", "a"), ("fail", "b")])

    def test_the_spare_gates_take_in_order(self):
        run = Run(plant_of("a b", [("y", "spare", ("b", "a")), ("x", "spare", ("b", "a")), ("z", "spare", ("a", "b")),
                                   ("g", "all", ("a", "b"))]))
        self.assertEqual(run.state, ((), (("y", "b"), ("x", "a"), ("z", "")), ()))
        self.assertEqual([run.truths()[name] for name in "xyz"], [False, False, True])

    def test_both_inputs_true_at_the_beginning(self):
        run = Run(plant_of("a b", [("u", "spare", ("a",)), ("x", "spare", ("a",)), ("y", "spare", ("a",)),
                                   ("g", "before", "x", "y"), ("h", "all", ("g",))]))
        self.assertEqual(run.truths()["x"], True)
        self.assertEqual(run.truths()["y"], True)
        self.assertEqual(run.truths()["g"], False)
        run.do(("fail", "b"))
        self.assertEqual(run.truths()["g"], False)

    def test_a_trigger_that_is_true_starts_nothing(self):
        run = Run(plant_of("a b c", [("u", "spare", ("a", "c")), ("v", "spare", ("a",)), ("g", "all", ("a", "b"))],
                           [("v", ("b",))]))
        self.assertEqual(run.truths()["v"], True)
        self.assertEqual(run.do(("fail", "c")), ("c",))
        self.assertEqual(run.do_all(events("-c a")), [(), ("a",)])
        # Now v comes to use a, and so it can come true anew.
        self.assertEqual(run.do(("mend", "a")), ())
        self.assertEqual(run.state, ((), (("u", "c"), ("v", "a")), ()))
        self.assertEqual(run.do(("fail", "a")), ("a", "b"))

    def test_the_plant_is_kept(self):
        plant = plant_of("a", [("g", "all", ("a",))])
        run = Run(plant)
        run.do(("fail", "a"))
        self.assertIs(run.plant, plant)
        self.assertEqual(plant, plant_of("a", [("g", "all", ("a",))]))
        self.assertEqual(Run(plant).state, ((), (), ()))


class TestGates(unittest.TestCase):
    def truth_behind(self, gates, row, name="g", parts="a b c", causes=()):
        run = Run(plant_of(parts, gates + [("never", "all", ("a", "z"))], causes))
        run.do_all(events(row))
        return run.truths()[name]

    def test_all_any_least(self):
        gates = [("x", "all", ("a", "b", "c")), ("y", "any", ("c", "a", "b")), ("one", "least", 1, ("a", "b", "c")),
                 ("two", "least", 2, ("b", "a", "c")), ("three", "least", 3, ("a", "b", "c")),
                 ("single", "least", 1, ("b",)), ("over", "all", ("two", "c")), ("either", "any", ("x", "b"))]
        for many in range(4):
            for row in itertools.permutations("abc", many):
                run = Run(plant_of("a b c", gates))
                run.do_all(fails(" ".join(row)))
                wanted = {"a": "a" in row, "b": "b" in row, "c": "c" in row, "x": many == 3, "y": many > 0,
                          "one": many >= 1, "two": many >= 2, "three": many >= 3, "single": "b" in row,
                          "over": many >= 2 and "c" in row, "either": "b" in row}
                self.assertEqual(run.truths(), wanted)
                self.assertEqual({type(told) for told in run.truths().values()}, {bool})
                self.assertEqual(list(run.truths()), sorted(wanted))
                self.assertIs(run.stopped, "b" in row)

    def test_before(self):
        gates = [("g", "before", "a", "b")]
        for row, told in [("", False), ("a", False), ("b", False), ("a b", True), ("b a", False), ("a c b", True),
                          ("a b -a", False), ("a b -b", False), ("a b -a a", False), ("a b -b b", True),
                          ("b a -b b", True), ("b a -a a", False), ("b a -b c b", True), ("a b c -c c", True),
                          ("b a c", False), ("a b -a -b b a", False), ("a b -b -a a b", True),
                          ("b -b a b", True), ("a -a b a", False)]:
            self.assertEqual(self.truth_behind(gates, row, parts="a b c z"), told, row)

    def test_before_with_both_by_one_event(self):
        gates = [("g", "before", "a", "b"), ("h", "before", "b", "a")]
        for causes in [[("a", ("b",))], [("c", ("a", "b"))], [("c", ("b", "a"))], [("c", ("a",)), ("a", ("b",))]]:
            row = "a" if len(causes) == 1 and causes[0][0] == "a" else "c"
            for name in ["g", "h"]:
                self.assertEqual(self.truth_behind(gates, row, name, "a b c z", causes), False)
                self.assertEqual(self.truth_behind(gates, row + " z", name, "a b c z", causes), False)
            self.assertEqual(self.truth_behind(gates, row + " -b b", "g", "a b c z", causes), True)
            self.assertEqual(self.truth_behind(gates, row + " -b b", "h", "a b c z", causes), False)

    def test_before_over_gates(self):
        gates = [("x", "any", ("a", "b")), ("y", "all", ("a", "b")), ("g", "before", "x", "y"),
                 ("h", "before", "g", "c"), ("i", "before", "c", "g")]
        for row, told in [("a b", [True, False, False]), ("a b c", [True, True, False]),
                          ("a c b", [True, False, True]), ("b a -a c a", [True, False, True]),
                          ("a b c -b", [False, False, False]), ("c a b -c", [True, False, False]),
                          ("c a b -c c", [True, True, False])]:
            self.assertEqual([self.truth_behind(gates, row, name, "a b c z") for name in "ghi"], told, row)

    def test_before_over_a_gate_that_is_true_at_the_beginning(self):
        gates = [("u", "spare", ("c",)), ("v", "spare", ("c",)), ("g", "before", "v", "a"), ("h", "before", "a", "v")]
        for row, told in [("", [False, False]), ("a", [True, False]), ("a b", [True, False]), ("b a", [True, False]),
                          ("a -a", [False, False]), ("a -a a", [True, False])]:
            self.assertEqual([self.truth_behind(gates, row, name, "a b c z") for name in "gh"], told, row)

    def test_two_gates_over_one_another_in_one_event(self):
        # x comes true ahead of y in the list of gates, but by the same event.
        gates = [("x", "any", ("a",)), ("y", "any", ("x",)), ("g", "before", "x", "y"), ("h", "before", "y", "x")]
        for row in ["a", "a b", "a -a a"]:
            self.assertEqual([self.truth_behind(gates, row, name, "a b z") for name in "gh"], [False, False])

    def test_held_gates_in_the_order_of_the_gates(self):
        run = Run(plant_of("a b c", [("z", "before", "a", "b"), ("x", "before", "a", "c"), ("y", "before", "c", "b"),
                                     ("g", "all", ("a", "b", "c"))]))
        run.do_all(fails("a c b"))
        self.assertEqual(run.state, (("a", "b", "c"), (), ("z", "x", "y")))
        run.do(("mend", "b"))
        self.assertEqual(run.state, (("a", "c"), (), ("x",)))


class TestSpares(unittest.TestCase):
    def states(self, plant, row):
        run = Run(plant)
        told = []
        for event in events(row):
            run.do(event)
            told.append(" ".join([part or "-" for _, part in run.state[1]]))
        return told

    def test_one_gate(self):
        plant = plant_of("a b *c", [("g", "spare", ("a", "b", "c"))])
        self.assertEqual(self.states(plant, "a b c"), ["b", "c", "-"])
        self.assertEqual(self.states(plant, "b a c"), ["a", "c", "-"])
        # It goes on with what it uses, though an earlier part is mended.
        self.assertEqual(self.states(plant, "a -a b"), ["b", "b", "a"])
        self.assertEqual(self.states(plant, "a b c -b -a b"), ["b", "c", "-", "b", "b", "a"])

    def test_it_is_true_when_it_uses_none(self):
        run = Run(plant_of("a *b", [("g", "spare", ("a", "b"))]))
        run.do_all(fails("a"))
        self.assertIs(run.stopped, False)
        run.do_all(fails("b"))
        self.assertEqual((run.stopped, run.state, run.truths()["g"]), (True, (("a", "b"), (("g", ""),), ()), True))
        run.do(("mend", "b"))
        self.assertEqual((run.stopped, run.state), (False, (("a",), (("g", "b"),), ())))

    def test_gates_that_share_parts(self):
        plant = plant_of("a b *s *t", [("x", "spare", ("a", "s", "t")), ("y", "spare", ("b", "s", "t")),
                                       ("g", "all", ("x", "y"))])
        self.assertEqual(self.states(plant, "a b"), ["s b", "s t"])
        self.assertEqual(self.states(plant, "b a"), ["a s", "t s"])
        self.assertEqual(self.states(plant, "a b s t"), ["s b", "s t", "- t", "- -"])
        # Both use none: the first gate takes first, whatever is mended.
        self.assertEqual(self.states(plant, "a b s t -t -s"), ["s b", "s t", "- t", "- -", "t -", "t s"])
        self.assertEqual(self.states(plant, "a b s t -b -s"), ["s b", "s t", "- t", "- -", "- b", "s b"])
        # The mended part is not taken from the one that uses it.
        self.assertEqual(self.states(plant, "b a -b s"), ["a s", "t s", "t s", "t b"])

    def test_a_part_that_another_gate_uses_is_passed_over(self):
        plant = plant_of("a b", [("x", "spare", ("a", "b")), ("y", "spare", ("b",)), ("g", "all", ("x", "y"))])
        self.assertEqual(self.states(plant, "a b -b"), ["- b", "- -", "b -"])

    def test_which_parts_can_fail(self):
        run = Run(plant_of("*d *c b a", [("x", "spare", ("c", "d")), ("g", "all", ("a", "b"))]))
        self.assertEqual(run.possible(), fails("a b c"))
        run.do(("fail", "c"))
        self.assertEqual(run.possible(), events("a b d -c"))
        run.do(("fail", "d"))
        self.assertEqual(run.possible(), events("a b -c -d"))
        run.do(("mend", "d"))
        run.do(("mend", "c"))
        # c is cold and works, but x uses d.
        self.assertEqual(run.possible(), events("a b d"))

    def test_a_plant_in_which_nothing_is_possible(self):
        run = Run(plant_of("*a", [("g", "all", ("a",))]))
        self.assertEqual(run.possible(), [])
        with self.assertRaises(NoEvent):
            run.do(("fail", "a"))


class TestCauses(unittest.TestCase):
    def fallen(self, causes, row, gates=(), parts="a b c d e"):
        gates = list(gates) + [("never", "all", ("z", "a"))]
        return Run(plant_of(parts + " z", gates, causes)).do_all(events(row))

    def test_no_cause(self):
        self.assertEqual(self.fallen([], "a b -a a"), [("a",), ("b",), (), ("a",)])

    def test_parts_in_their_order(self):
        self.assertEqual(self.fallen([("a", ("d", "b", "c"))], "a"), [("a", "d", "b", "c")])

    def test_causes_in_their_order(self):
        self.assertEqual(self.fallen([("a", ("c",)), ("a", ("b",))], "a"), [("a", "c", "b")])
        self.assertEqual(self.fallen([("b", ("d",)), ("a", ("c", "b"))], "a"), [("a", "c", "b", "d")])

    def test_the_line_is_a_line(self):
        # d stands in the line ahead of e, whose trigger b comes later.
        self.assertEqual(self.fallen([("a", ("b", "d")), ("b", ("e",)), ("d", ("c",))], "a"),
                         [("a", "b", "d", "e", "c")])

    def test_four_causes_in_a_chain(self):
        self.assertEqual(self.fallen([("d", ("e",)), ("c", ("d",)), ("b", ("c",)), ("a", ("b",))], "a"),
                         [("a", "b", "c", "d", "e")])
        self.assertEqual(self.fallen([("d", ("e",)), ("c", ("d",)), ("b", ("c",)), ("a", ("b",))], "c a"),
                         [("c", "d", "e"), ("a", "b")])

    def test_a_part_is_in_the_line_once(self):
        self.assertEqual(self.fallen([("a", ("b", "c")), ("a", ("c", "b", "d"))], "a"), [("a", "b", "c", "d")])
        self.assertEqual(self.fallen([("a", ("b", "c")), ("b", ("a", "c", "d"))], "a"), [("a", "b", "c", "d")])

    def test_parts_that_have_failed_stay_out(self):
        self.assertEqual(self.fallen([("a", ("a", "b", "c"))], "b a"), [("b",), ("a", "c")])

    def test_the_same_cause_twice(self):
        self.assertEqual(self.fallen([("a", ("b",)), ("a", ("b",))], "a"), [("a", "b")])

    def test_gates_as_triggers(self):
        two = ("two", "least", 2, ("a", "b", "c"))
        self.assertEqual(self.fallen([("two", ("d",))], "a b", [two]), [("a",), ("b", "d")])
        # It is true already, so it starts nothing more.
        self.assertEqual(self.fallen([("two", ("d",))], "a b -d c", [two]), [("a",), ("b", "d"), (), ("c",)])
        # It comes true anew.
        self.assertEqual(self.fallen([("two", ("d",))], "a b -d -a c", [two]),
                         [("a",), ("b", "d"), (), (), ("c", "d")])
        # It comes true by a part that a cause brings down.
        self.assertEqual(self.fallen([("two", ("d",)), ("a", ("b", "e"))], "a", [two]), [("a", "b", "e", "d")])

    def test_before_gates_as_triggers(self):
        gates = [("g", "before", "a", "b")]
        causes = [("g", ("c", "d"))]
        self.assertEqual(self.fallen(causes, "a b", gates), [("a",), ("b", "c", "d")])
        self.assertEqual(self.fallen(causes, "b a", gates), [("b",), ("a",)])
        self.assertEqual(self.fallen(causes + [("a", ("b",))], "a", gates), [("a", "b")])
        # Within an event a counts as it was behind the event ahead of it.
        self.assertEqual(self.fallen(causes + [("e", ("b",))], "a e", gates), [("a",), ("e", "b", "c", "d")])
        self.assertEqual(self.fallen(causes + [("e", ("a", "b"))], "e", gates), [("e", "a", "b")])

    def test_a_spare_gate_as_a_trigger(self):
        gates = [("u", "spare", ("a", "b"))]
        self.assertEqual(self.fallen([("u", ("c",))], "a b", gates), [("a",), ("b", "c")])
        self.assertEqual(self.fallen([("u", ("c",))], "a b -c -a a", gates), [("a",), ("b", "c"), (), (), ("a", "c")])

    def test_a_cold_part_that_is_not_used_fails_too(self):
        self.assertEqual(self.fallen([("a", ("s", "b"))], "a", [], "a b *s"), [("a", "s", "b")])

    def test_a_part_in_the_line_works_until_its_turn(self):
        # u takes s, which stands in the line, and v then takes x; were s passed over, u would take x.
        plant = plant_of("a b c *s *x", [("u", "spare", ("b", "s", "x")), ("v", "spare", ("c", "x")),
                                         ("g", "all", ("u", "v"))], [("a", ("b", "c", "s"))])
        run = Run(plant)
        self.assertEqual(run.do(("fail", "a")), ("a", "b", "c", "s"))
        self.assertEqual(run.state, (("a", "b", "c", "s"), (("u", ""), ("v", "x")), ()))

    def test_spare_gates_take_in_each_step(self):
        # As b fails, u takes s; by the end of the event it uses t, as s failed too.
        plant = plant_of("a b *s *t", [("u", "spare", ("b", "s", "t")), ("g", "all", ("a", "u"))],
                         [("a", ("b", "s"))])
        run = Run(plant)
        self.assertEqual(run.do(("fail", "a")), ("a", "b", "s"))
        self.assertEqual(run.state[1], (("u", "t"),))
        self.assertEqual(run.possible(), events("t -a -b -s"))

    def test_a_cold_part_that_is_not_used_any_more_fails_too(self):
        # u has used s, and goes on with a again: s cannot fail of itself, but has its turn in the line.
        plant = plant_of("a b c *s", [("u", "spare", ("a", "s")), ("g", "all", ("a", "c"))], [("b", ("c", "s"))])
        run = Run(plant)
        run.do_all(events("a s -a -s"))
        self.assertEqual((run.state, run.possible()), (((), (("u", "a"),), ()), fails("a b c")))
        self.assertEqual(run.do(("fail", "b")), ("b", "c", "s"))

    def test_parts_that_are_used_fail_in_their_turn(self):
        plant = plant_of("a b *p q", [("u", "spare", ("p", "q")), ("g", "all", ("u", "a"))],
                         [("a", ("b", "p")), ("b", ("q",))])
        run = Run(plant)
        self.assertEqual(run.do(("fail", "a")), ("a", "b", "p", "q"))
        self.assertEqual((run.stopped, run.state), (True, (("a", "b", "p", "q"), (("u", ""),), ())))

    def test_eight_parts_by_one_event(self):
        run = Run(plant_of("a b c d e f g h", [("x", "all", tuple("abcdefgh"))],
                           [("a", ("h", "g")), ("g", ("f", "e")), ("e", ("d",)), ("d", ("c", "b"))]))
        self.assertEqual(run.do(("fail", "a")), ("a", "h", "g", "f", "e", "d", "c", "b"))
        self.assertEqual((run.state[0], run.stopped), (tuple("abcdefgh"), True))


class TestStops(unittest.TestCase):
    def test_events_go_on_behind_a_stop(self):
        run = Run(plant_of("a b c", [("g", "least", 2, ("a", "b", "c"))]))
        told = []
        for event in events("a b c -a -b -c b a"):
            run.do(event)
            told.append(run.stopped)
        self.assertEqual(told, [False, True, True, True, False, False, False, True])

    def test_the_top_need_not_be_the_last_gate(self):
        run = Run(plant_of("a b", [("x", "any", ("a",)), ("y", "any", ("b",))], [], "x"))
        run.do(("fail", "b"))
        self.assertIs(run.stopped, False)
        run.do(("fail", "a"))
        self.assertIs(run.stopped, True)


class TestNoEvent(unittest.TestCase):
    def setUp(self):
        self.plant = plant_of("a b *s *t", [("u", "spare", ("a", "s")), ("w", "before", "a", "b"),
                                            ("g", "all", ("u", "b"))], [("b", ("t",))])
        self.run_of = Run(self.plant)
        self.run_of.do(("fail", "a"))

    def refused(self, call, value, index):
        before = copy.deepcopy(shown(self.run_of)[1:])
        kept = copy.deepcopy(value)
        with self.assertRaises(NoEvent, msg=value) as caught:
            call(value)
        self.assertEqual(caught.exception.index, index)
        self.assertEqual(shown(self.run_of)[1:], before)
        self.assertEqual(value, kept)

    def impossible(self):
        return [("fail", "a"), ("mend", "b"), ("mend", "s"), ("fail", "t"), ("mend", "t"), ("fail", "u"),
                ("mend", "u"), ("fail", "g"), ("fail", "none"), ("fail", ""), ("break", "b"), ("fail",), (),
                ("fail", "b", "b"), ["fail", "b"], "fail b", ("b", "fail"), ("fail", ("b",)), ("Fail", "b"),
                (("fail", "b"),), [("fail", "b")], ("fail", None), {"fail": "b"}] + ANY_VALUES

    def test_do(self):
        for value in self.impossible():
            self.refused(self.run_of.do, value, 0)

    def test_do_all(self):
        for value in self.impossible():
            self.refused(self.run_of.do_all, [value], 0)
            self.refused(self.run_of.do_all, [value, value], 0)
            self.refused(self.run_of.do_all, [("mend", "a"), ("fail", "a"), value, ("mend", "a"), 5], 2)
            self.refused(self.run_of.do_all, (("mend", "a"), ("fail", "a"), ("mend", "a"), ("fail", "a"), value), 4)

    def test_each_event_is_possible_when_it_comes(self):
        self.refused(self.run_of.do_all, events("b b"), 1)
        self.refused(self.run_of.do_all, events("-a -a"), 1)
        self.refused(self.run_of.do_all, events("b t"), 1)
        self.refused(self.run_of.do_all, events("s -a -s s"), 3)
        self.assertEqual(self.run_of.do_all(events("s -s -a s a")), [("s",), (), (), ("s",), ("a",)])

    def test_values_that_are_no_list(self):
        for value in ANY_VALUES + ["fail", ("fail", "b"), {("fail", "b"): 1}]:
            if value not in ([], ()):
                self.refused(self.run_of.do_all, value, 0)

    def test_the_run_goes_on(self):
        self.refused(self.run_of.do_all, events("b -a b"), 2)
        self.assertEqual(self.run_of.do_all(events("b -a")), [("b", "t"), ()])


class TestDoing(unittest.TestCase):
    def test_no_events(self):
        run = Run(plant_of("a", [("g", "all", ("a",))]))
        self.assertEqual(run.do_all([]), [])
        self.assertEqual(run.do_all(()), [])
        self.assertEqual(run.state, ((), (), ()))

    def test_a_tuple_of_events(self):
        run = Run(plant_of("a", [("g", "all", ("a",))]))
        self.assertEqual(run.do_all((("fail", "a"), ("mend", "a"))), [("a",), ()])

    def test_by_name(self):
        plant = plant_of("a", [("g", "all", ("a",))])
        run = Run(plant=plant)
        self.assertEqual(run.do(event=("fail", "a")), ("a",))
        self.assertEqual(run.do_all(events=[("mend", "a")]), [()])
        self.assertEqual(at(plant=plant, state=(("a",), (), ())).state, (("a",), (), ()))

    def test_sixty_events(self):
        run = Run(plant_of("a b", [("g", "before", "a", "b")]))
        told = run.do_all(events("a b -a -b") * 15)
        self.assertEqual(told, [("a",), ("b",), (), ()] * 15)
        self.assertEqual(run.state, ((), (), ()))

    def test_one_part_and_one_gate(self):
        for word in [("all", ("a",)), ("any", ("a",)), ("least", 1, ("a",)), ("spare", ("a",))]:
            run = Run(Plant([("a", "hot")], [("g",) + word], [], "g"))
            self.assertEqual(run.do(("fail", "a")), ("a",))
            self.assertIs(run.stopped, True)
            self.assertEqual(run.possible(), [("mend", "a")])

    def test_do_all_is_do_for_each(self):
        for values, plant in made_plants(60):
            choices = Choices(len(values[1]))
            one = Run(plant)
            row, told = [], []
            for _ in range(12):
                if one.possible():
                    row.append(choices.one(one.possible()))
                    told.append(one.do(row[-1]))
            other = Run(plant)
            self.assertEqual(other.do_all(row), told)
            self.assertEqual(shown(other), shown(one))


class TestCopies(unittest.TestCase):
    def setUp(self):
        self.plant = plant_of("a b *s", [("u", "spare", ("a", "s")), ("w", "before", "a", "b"),
                                         ("g", "all", ("w", "u"))])

    def test_copies_are_independent(self):
        run = Run(self.plant)
        run.do(("fail", "a"))
        before = shown(run)
        other = run.copy()
        self.assertIsInstance(other, Run)
        self.assertEqual(shown(other), before)
        other.do(("fail", "b"))
        self.assertEqual(shown(run), before)
        then = shown(other)
        run.do_all(events("s -a"))
        self.assertEqual(shown(other), then)
        self.assertEqual(other.state, (("a", "b"), (("u", "s"),), ("w",)))

    def test_what_is_returned_is_new(self):
        run = Run(self.plant)
        before = copy.deepcopy(shown(run)[1:])
        run.possible().clear()
        run.possible().append(("fail", "s"))
        run.truths()["g"] = True
        run.truths().clear()
        self.assertEqual(shown(run)[1:], before)
        self.assertIsNot(run.possible(), run.possible())
        self.assertIsNot(run.truths(), run.truths())
        told = run.do_all(events("a b"))
        then = copy.deepcopy(shown(run)[1:])
        told.clear()
        self.assertEqual(shown(run)[1:], then)

    def test_what_is_passed_is_not_kept(self):
        run = Run(self.plant)
        row = events("a b")
        run.do_all(row)
        self.assertEqual(row, events("a b"))
        before = copy.deepcopy(shown(run)[1:])
        row.clear()
        self.assertEqual(shown(run)[1:], before)

    def test_at_is_at_that_state(self):
        run = at(self.plant, (("a", "b"), (("u", "s"),), ("w",)))
        self.assertIsInstance(run, Run)
        self.assertEqual(run.plant, self.plant)
        self.assertEqual(run.state, (("a", "b"), (("u", "s"),), ("w",)))
        self.assertEqual(run.truths(), {"a": True, "b": True, "g": False, "s": False, "u": False, "w": True})
        self.assertIs(run.stopped, False)
        self.assertEqual(run.do(("fail", "s")), ("s",))
        self.assertIs(run.stopped, True)
        self.assertIs(at(self.plant, run.state).stopped, True)

    def test_at_tells_what_is_held_from_what_is_not(self):
        for held in [(), ("w",)]:
            run = at(self.plant, (("a", "b"), (("u", "s"),), held))
            run.do(("fail", "s"))
            self.assertEqual((run.stopped, run.state[2]), (held == ("w",), held))


class TestMadePlants(unittest.TestCase):
    def compare(self, run, model):
        self.assertEqual(run.state, model.state())
        self.assertEqual(run.truths(), model.truths())
        self.assertEqual(list(run.truths()), sorted(run.truths()))
        self.assertEqual(run.possible(), model.possible())
        self.assertIs(run.stopped, model.is_true(model.top))

    def test_long_rows(self):
        for seed, (values, plant) in enumerate(made_plants(300)):
            run, model, choices = Run(plant), Model(*values), Choices(seed)
            self.compare(run, model)
            for _ in range(40):
                if run.possible():
                    event = choices.one(run.possible())
                    self.assertEqual(run.do(event), model.do(event))
                    self.compare(run, model)

    def test_all_short_rows(self):
        for values, plant in made_plants(40):
            if len(values[0]) <= 3:
                self.go_on(Run(plant), Model(*values), 4)

    def go_on(self, run, model, depth):
        self.compare(run, model)
        if depth:
            for event in run.possible():
                one, other = run.copy(), copy.deepcopy(model)
                self.assertEqual(one.do(event), other.do(event))
                self.go_on(one, other, depth - 1)

    def test_the_state_tells_all(self):
        for seed, (_, plant) in enumerate(made_plants(150)):
            run, choices = Run(plant), Choices(seed)
            for _ in range(20):
                other = at(plant, run.state)
                self.assertEqual(shown(other), shown(run))
                if run.possible():
                    event = choices.one(run.possible())
                    self.assertEqual(other.do(event), run.do(event))
                    self.assertEqual(shown(other), shown(run))

    def test_the_facts(self):
        for seed, (_, plant) in enumerate(made_plants(150)):
            run, choices = Run(plant), Choices(seed)
            for _ in range(30):
                if run.possible():
                    before, event = run.truths(), choices.one(run.possible())
                    fallen = run.do(event)
                    now = run.truths()
                    if event[0] == "mend":
                        self.assertEqual(fallen, ())
                        self.assertEqual([name for name in now if now[name] and not before[name]], [])
                    else:
                        self.assertEqual([name for name in now if before[name] and not now[name]], [])
                        self.assertEqual(fallen[0], event[1])


if __name__ == "__main__":
    unittest.main()
