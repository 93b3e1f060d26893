import copy
import inspect
import itertools
import unittest

from faultorder.errors import TooMany
from faultorder.plants import Plant
from faultorder.runs import Run
from faultorder.states import is_reached, reached
from tests.making import ANY_VALUES, events, made_plants, plant_of
from tests.reference import Graph, all_rows

BEFORE = plant_of("a b", [("g", "before", "a", "b")])
NOTHING = ((), (), ())


def ring(many):
    """So many hot parts in a ring of before gates: 2205 states with 8 parts."""
    names = "abcdefgh"[:many]
    gates = [("w" + name, "before", name, names[(at + 1) % many]) for at, name in enumerate(names)]
    return Plant([(name, "hot") for name in names], gates, [], "wa")


class TestReached(unittest.TestCase):
    def test_by_hand(self):
        both = ("a", "b")
        self.assertEqual(reached(BEFORE), {NOTHING: (), (("a",), (), ()): tuple(events("a")),
                                           (("b",), (), ()): tuple(events("b")),
                                           (both, (), ("g",)): tuple(events("a b")),
                                           (both, (), ()): tuple(events("b a"))})

    def test_what_mends_alone_lead_back_to(self):
        # Behind the mend of a the gate goes on with s.
        plant = plant_of("a b *s", [("u", "spare", ("a", "s")), ("g", "all", ("u", "b"))])
        back = ((), (("u", "s"),), ())
        self.assertEqual(reached(plant)[back], tuple(events("a -a")))
        self.assertNotIn(back, reached(plant, mends=False))
        self.assertEqual([state for state in reached(plant, mends=False) if not state[0]], [((), (("u", "a"),), ())])

    def test_failures_come_ahead_of_mends(self):
        # Also a, mend of a, b and b, a, mend of a lead there.
        plant = plant_of("a b *s", [("u", "spare", ("a", "s")), ("g", "all", ("u", "b"))])
        self.assertEqual(reached(plant)[(("b",), (("u", "s"),), ())], tuple(events("a b -a")))

    def test_against_rows_played_one_by_one(self):
        for values, plant in made_plants(60, 4, 5):
            for mends in (True, False):
                graph = Graph(values, mends)
                told = reached(plant, mends=mends)
                self.assertEqual(told, graph.rows)
                self.assertEqual(list(told), sorted(graph.rows))

    def test_all_rows_up_to_a_length(self):
        for values, plant in made_plants(60, 3, 5):
            told = reached(plant)
            first = {}
            for row, model in all_rows(values, 4):
                first.setdefault(model.state(), row)
            self.assertEqual({state: row for state, row in told.items() if len(row) <= 4}, first)

    def test_the_rows_are_rows(self):
        for _, plant in made_plants(40):
            for state, row in list(reached(plant, most=10 ** 9).items())[:60]:
                run = Run(plant)
                run.do_all(row)
                self.assertEqual(run.state, state)

    def test_a_plant_that_nothing_happens_to(self):
        plant = plant_of("*a", [("g", "all", ("a",))])
        self.assertEqual(reached(plant), {NOTHING: ()})
        self.assertTrue(is_reached(plant, (NOTHING,)))
        self.assertFalse(is_reached(plant, ()))

    def test_what_is_returned_is_new(self):
        told = reached(BEFORE)
        kept = copy.deepcopy(told)
        told.clear()
        self.assertEqual(reached(BEFORE), kept)
        self.assertIsNot(reached(BEFORE), reached(BEFORE))

    def test_by_name(self):
        self.assertEqual(len(reached(plant=BEFORE, mends=True, most=5)), 5)
        self.assertTrue(is_reached(plant=BEFORE, value=tuple(reached(BEFORE)), mends=True))
        for call in (reached, is_reached):
            with self.assertRaises(TypeError):
                call(BEFORE, (), False)


class TestMost(unittest.TestCase):
    def refused(self, plant, most, **more):
        with self.assertRaises(TooMany) as caught:
            reached(plant, most=most, **more)
        self.assertEqual(caught.exception.most, most)

    def test_around_the_number(self):
        for plant in (BEFORE, ring(3), ring(4), plant_of("*a", [("g", "all", ("a",))])):
            for mends in (True, False):
                many = len(reached(plant, mends=mends))
                for most in (-1, 0, many // 2, many - 1):
                    if most < many:
                        self.refused(plant, most, mends=mends)
                for most in (many, many + 1, 10 ** 39):
                    self.assertEqual(reached(plant, mends=mends, most=most), reached(plant, mends=mends))

    def test_fewer_without_mends(self):
        plant = plant_of("a b *s", [("u", "spare", ("a", "s")), ("g", "all", ("u", "b"))])
        many = len(reached(plant, mends=False))
        self.assertLess(many, len(reached(plant)))
        self.assertEqual(len(reached(plant, mends=False, most=many)), many)
        self.refused(plant, many)

    def test_none_is_passed(self):
        self.assertEqual(len(reached(ring(7))), 841)
        for mends in (True, False):
            with self.assertRaises(TooMany) as caught:
                reached(ring(8), mends=mends)
            self.assertEqual(caught.exception.most, 2000)
        self.assertEqual(len(reached(ring(8), most=2205)), 2205)
        self.refused(ring(8), 2204)
        self.assertEqual(inspect.signature(reached).parameters["most"].default, 2000)

    def test_is_reached_has_none(self):
        states = tuple(reached(ring(8), most=3000))
        self.assertIs(is_reached(ring(8), states), True)
        self.assertIs(is_reached(ring(8), states[:-1]), False)
        self.assertIs(is_reached(ring(8), states[::-1], mends=False), True)


class TestIsReached(unittest.TestCase):
    def setUp(self):
        self.plant = plant_of("a b *s", [("u", "spare", ("a", "s")), ("g", "before", "a", "b")])
        self.states = tuple(reached(self.plant))

    def test_in_any_order(self):
        for order in itertools.permutations(reached(BEFORE)):
            self.assertIs(is_reached(BEFORE, order), True)
        self.assertIs(is_reached(self.plant, self.states), True)
        self.assertIs(is_reached(self.plant, self.states[::-1]), True)

    def test_with_and_without_mends(self):
        fewer = tuple(reached(self.plant, mends=False))
        self.assertLess(len(fewer), len(self.states))
        self.assertIs(is_reached(self.plant, fewer, mends=False), True)
        self.assertIs(is_reached(self.plant, fewer), False)
        self.assertIs(is_reached(self.plant, self.states, mends=False), False)

    def test_one_state_more_or_less_or_twice_or_another_one(self):
        states = self.states
        other = (("a", "b", "s"), (("u", "a"),), ("g",))
        self.assertNotIn(other, states)
        self.assertIs(is_reached(self.plant, states + (other,)), False)
        self.assertIs(is_reached(self.plant, states + (NOTHING,)), False)
        for at, state in enumerate(states):
            self.assertIs(is_reached(self.plant, states[:at] + states[at + 1:]), False)
            self.assertIs(is_reached(self.plant, states + (state,)), False)
            self.assertIs(is_reached(self.plant, states[:at] + (other,) + states[at + 1:]), False)
            self.assertIs(is_reached(self.plant, states[:at] + (states[at - 1],) + states[at + 1:]), False)

    def test_lists_and_other_values_at_each_depth(self):
        self.assertIs(is_reached(self.plant, list(self.states)), False)
        self.assertIs(is_reached(self.plant, {state: True for state in self.states}), False)
        at = max(range(len(self.states)), key=lambda k: len(self.states[k][0]) + len(self.states[k][2]))
        failed, uses, held = self.states[at]
        wrong = [[failed, uses, held], (list(failed), uses, held), (failed, list(uses), held),
                 (failed, uses, list(held)), (failed, ([*uses[0]],), held), (failed, uses), (failed, uses, held, ()),
                 (failed[::-1], uses, held), (uses, failed, held), (failed, ((uses[0][0], None),), held),
                 (failed, ((uses[0][0], True),), held), (failed, dict(uses), held), (" ".join(failed), uses, held)]
        for value in wrong + ANY_VALUES:
            self.assertIs(is_reached(self.plant, self.states[:at] + (value,) + self.states[at + 1:]), False, value)
            self.assertIs(is_reached(self.plant, self.states + (value,)), False, value)

    def test_any_value(self):
        for value in ANY_VALUES:
            kept = copy.deepcopy(value)
            for plant in (self.plant, plant_of("*a", [("g", "all", ("a",))])):
                self.assertIs(is_reached(plant, value), False)
                self.assertIs(is_reached(plant, (value,)), False)
            self.assertEqual(value, kept)


if __name__ == "__main__":
    unittest.main()
