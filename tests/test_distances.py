import copy
import inspect
import unittest

from faultorder.distances import distance, harmful, saving
from faultorder.errors import TooMany
from faultorder.orders import least_orders
from faultorder.plants import Plant
from faultorder.runs import Run
from faultorder.states import reached
from tests import reference
from tests.making import Choices, events, made_plants, plant_of, values_of

BEFORE = plant_of("a b", [("g", "before", "a", "b")])
ALL = plant_of("a b c", [("g", "all", ("a", "b", "c"))])
SAVED = plant_of("a b c", [("x", "any", ("b", "c")), ("g", "before", "a", "x")])
NEVER = plant_of("a *s", [("g", "all", ("a", "s"))])
CAUSE = plant_of("a b c", [("two", "least", 2, ("a", "b", "c"))], [("a", ("c",))])


def behind(plant, row):
    run = Run(plant)
    run.do_all(events(row))
    return run.state


class TestDistance(unittest.TestCase):
    def told(self, plant, row):
        return distance(plant, behind(plant, row))

    def test_by_hand(self):
        for row, number in [("", 3), ("a", 2), ("a b", 1), ("b c a", 0), ("a b -a", 2), ("a b c -c", 1)]:
            self.assertEqual(self.told(ALL, row), number)
        for row, number in [("", 1), ("b", 1), ("c", 1), ("b -b", 1), ("a", 0), ("a b", 0), ("b c", 0)]:
            self.assertEqual(self.told(CAUSE, row), number)

    def test_none(self):
        for row, number in [("", 2), ("a", 1), ("b", None), ("b a", None), ("a b", 0), ("b a -b", 1), ("b -b", 2)]:
            self.assertEqual(self.told(BEFORE, row), number)
        for row in ("", "a", "a -a"):
            self.assertIsNone(self.told(NEVER, row))

    def test_zero_is_an_integer(self):
        self.assertIs(type(self.told(BEFORE, "a b")), int)

    def test_failures_go_on_behind_what_is_not_possible_at_first(self):
        plant = plant_of("a *s *t", [("u", "spare", ("a", "s", "t"))])
        for row, number in [("", 3), ("a", 2), ("a s", 1), ("a s t", 0), ("a s -a", 2), ("a -a", 3)]:
            self.assertEqual(self.told(plant, row), number)

    def test_against_rows_played_one_by_one(self):
        found = set()
        for values, plant in made_plants(60, 4, 6):
            for state, row in reference.Graph(values).rows.items():
                wanted = reference.distance(reference.led(values, row))
                self.assertEqual(distance(plant, state), wanted)
                found.add(wanted)
        self.assertEqual(found, {None, 0, 1, 2, 3})

    def test_eight_parts(self):
        names = tuple("abcdefgh")
        plant = plant_of(" ".join(names), [("top", "all", names)])
        self.assertEqual([distance(plant, (names[:many], (), ())) for many in range(9)], list(range(8, -1, -1)))

    def test_by_name(self):
        self.assertEqual(distance(plant=ALL, state=((), (), ())), 3)


class TestHarmful(unittest.TestCase):
    def test_by_hand(self):
        # Behind b no failure stops the plant; behind its mend two do.
        self.assertEqual(harmful(BEFORE), (tuple(events("b")), "b"))

    def test_a_plant_that_no_mend_harms(self):
        for plant in (ALL, CAUSE, NEVER, plant_of("*a", [("g", "all", ("a",))])):
            self.assertIsNone(harmful(plant))

    def test_from_one_number_to_a_lesser_one(self):
        # Behind b all other parts stop the plant; behind its mend a and then b do.
        plant = plant_of("a b c d", [("w", "before", "a", "b"), ("x", "all", ("a", "b", "c", "d")),
                                     ("g", "any", ("w", "x"))])
        self.assertEqual([distance(plant, behind(plant, row)) for row in ("b", "b -b")], [3, 2])
        self.assertEqual(harmful(plant), (tuple(events("b")), "b"))

    def test_against_rows_played_one_by_one(self):
        found = {}
        for values, plant in made_plants(150, 3, 6):
            wanted = reference.harmful(values)
            self.assertEqual(harmful(plant), wanted)
            kind = None if wanted is None else len(wanted[0])
            found[kind] = found.get(kind, 0) + 1
        self.assertGreater(found[None], 10)
        self.assertGreater(found[1], 3)
        self.assertGreater(found[2], 3)

    def test_most(self):
        self.assertEqual(inspect.signature(harmful).parameters["most"].default, 2000)
        for plant in (BEFORE, ALL, NEVER):
            many = len(reached(plant))
            for most in (-1, 0, 1, many - 1):
                with self.assertRaises(TooMany) as caught:
                    harmful(plant, most=most)
                self.assertEqual(caught.exception.most, most)
            for most in (many, many + 1):
                self.assertEqual(harmful(plant, most=most), harmful(plant))

    def test_none_is_passed(self):
        names = "abcdefgh"
        gates = [("w" + name, "before", name, names[(at + 1) % 8]) for at, name in enumerate(names)]
        ring = Plant([(name, "hot") for name in names], gates, [], "wa")
        with self.assertRaises(TooMany) as caught:
            harmful(ring)
        self.assertEqual(caught.exception.most, 2000)
        self.assertEqual(harmful(ring, most=2205), (tuple(events("b")), "b"))

    def test_by_name(self):
        self.assertEqual(harmful(plant=BEFORE, most=5), (tuple(events("b")), "b"))
        with self.assertRaises(TypeError):
            harmful(BEFORE, 5)


class TestSaving(unittest.TestCase):
    def test_by_hand(self):
        self.assertEqual(saving(SAVED), [(("a", "b"), "c"), (("a", "c"), "b")])
        for plant in (BEFORE, ALL, CAUSE, NEVER):
            self.assertEqual(saving(plant), [])

    def test_the_parts_are_ascending(self):
        plant = plant_of("d c a b", [("x", "any", ("b", "c", "d")), ("g", "before", "a", "x")])
        self.assertEqual(saving(plant), [(("a", "b"), "c"), (("a", "b"), "d"), (("a", "c"), "b"), (("a", "c"), "d"),
                                         (("a", "d"), "b"), (("a", "d"), "c")])

    def test_what_is_no_row_saves_nothing(self):
        # Behind c the part b has fallen, and a and b are no row any more.
        plant = plant_of("a b c", [("g", "before", "a", "b")], [("c", ("b",))])
        self.assertEqual(least_orders(plant), [("a", "b"), ("a", "c")])
        self.assertEqual(saving(plant), [(("a", "c"), "b")])
        # s cannot fail ahead of a.
        plant = plant_of("a b *s", [("u", "spare", ("a", "s")), ("x", "any", ("b", "s")), ("g", "before", "a", "x")])
        self.assertEqual(saving(plant), [(("a", "s"), "b")])

    def test_against_rows_played_one_by_one(self):
        found = 0
        for values, plant in made_plants(300, 4, 8, ["before", "before", "any", "spare"]):
            wanted = reference.saving(values)
            self.assertEqual(saving(plant), wanted)
            self.assertEqual([order for order in least_orders(plant) for pair in wanted if pair[0] == order],
                             [order for order, _ in wanted])
            found += len(wanted) > 0
        self.assertGreater(found, 5)

    def test_what_is_returned_is_new(self):
        told = saving(SAVED)
        kept = copy.deepcopy(told)
        told.clear()
        self.assertEqual(saving(SAVED), kept)
        self.assertEqual(saving(plant=SAVED), kept)


class TestTogether(unittest.TestCase):
    def test_no_failure_makes_the_distance_much_less(self):
        for seed, (_, plant) in enumerate(made_plants(60)):
            run, choices = Run(plant), Choices(seed)
            for _ in range(12):
                if run.possible():
                    before, event = distance(plant, run.state), choices.one(run.possible())
                    run.do(event)
                    now = distance(plant, run.state)
                    if event[0] == "fail" and before is None:
                        self.assertIsNone(now)
                    if event[0] == "fail" and before and now is not None:
                        self.assertGreaterEqual(now, before - 1)
                    self.assertEqual(now == 0, run.stopped)


if __name__ == "__main__":
    unittest.main()
