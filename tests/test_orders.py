import copy
import itertools
import unittest

from faultorder.orders import is_steady, least_orders, orders, steady, stops
from faultorder.runs import Run
from tests import reference
from tests.making import ANY_VALUES, made_plants, plant_of, values_of

BEFORE = plant_of("a b", [("g", "before", "a", "b")])
CAUSE = plant_of("a b c", [("two", "least", 2, ("a", "b", "c"))], [("a", ("c",))])
SAVED = plant_of("a b c", [("x", "any", ("b", "c")), ("g", "before", "a", "x")])
NEVER = plant_of("a *s", [("g", "all", ("a", "s"))])
FIRST = plant_of("a b", [("g", "any", ("a", "b"))])
# t is used only if a fails ahead of s; then s saves nothing.
SPARES = plant_of("a b *s *t", [("u", "spare", ("a", "s")), ("v", "spare", ("b", "s", "t")), ("g", "all", ("u", "v"))])

# Words of gates by which a failure more often saves a plant.
SAVING_WORDS = ["before", "before", "before", "any", "spare"]


def so_many(many):
    """A plant that the failures of all of so many parts stop, in one order only."""
    names = "abcdef"[:many]
    gates = [("w" + name, "before", name, names[at + 1]) for at, name in enumerate(names[:-1])]
    return plant_of(" ".join(names), gates + [("g", "all", tuple([gate[0] for gate in gates]))])


def stopped_behind(plant, parts):
    run = Run(plant)
    run.do_all([("fail", part) for part in parts])
    return run.stopped


class TestOrders(unittest.TestCase):
    def test_the_examples_of_the_document(self):
        self.assertEqual(orders(BEFORE), [("a", "b")])
        self.assertEqual(least_orders(CAUSE), [("a",), ("b", "c"), ("c", "b")])

    def test_by_length_then_ascending(self):
        plant = plant_of("b a c", [("x", "all", ("a", "b")), ("g", "any", ("x", "c"))])
        self.assertEqual(orders(plant), [("c",), ("a", "b"), ("a", "c"), ("b", "a"), ("b", "c")])
        self.assertEqual(least_orders(plant), [("c",), ("a", "b"), ("b", "a")])

    def test_a_plant_that_nothing_stops(self):
        self.assertEqual((orders(NEVER), least_orders(NEVER)), ([], []))

    def test_a_plant_that_its_first_failure_stops(self):
        self.assertEqual(orders(FIRST), [("a",), ("b",)])
        self.assertEqual(least_orders(FIRST), [("a",), ("b",)])

    def test_the_failures_are_rows(self):
        # s can fail only behind a or b, and t only while it is used.
        self.assertEqual(orders(SPARES), [tuple(word) for word in ("abst", "abts", "asbt", "bast", "bsat", "bsta")])
        for order in orders(SPARES):
            for many in range(len(order)):
                self.assertFalse(stopped_behind(SPARES, order[:many]))
            self.assertTrue(stopped_behind(SPARES, order))

    def test_an_order_that_is_not_least_by_its_last_parts_alone(self):
        # Behind c, a and b stop the plant by x; without c, a and b do so as well.
        plant = plant_of("a b c", [("x", "before", "a", "b"), ("y", "all", ("a", "b", "c")), ("g", "any", ("x", "y"))])
        self.assertEqual(orders(plant), [("a", "b"), ("a", "c", "b"), ("b", "a", "c"), ("b", "c", "a"),
                                         ("c", "a", "b"), ("c", "b", "a")])
        self.assertEqual(least_orders(plant), [("a", "b"), ("b", "a", "c"), ("b", "c", "a"), ("c", "b", "a")])

    def test_six_parts(self):
        self.assertEqual(orders(so_many(6)), [tuple("abcdef")])
        self.assertEqual(least_orders(so_many(6)), [tuple("abcdef")])
        every = plant_of("a b c d e f", [("g", "all", tuple("abcdef"))])
        self.assertEqual(least_orders(every), list(itertools.permutations("abcdef")))

    def test_against_rows_played_one_by_one(self):
        found = 0
        for values, plant in made_plants(150, 4):
            self.assertEqual(orders(plant), reference.orders(values))
            self.assertEqual(least_orders(plant), reference.least_orders(values))
            found += len(orders(plant)) > len(least_orders(plant)) > 0
        self.assertGreater(found, 10)

    def test_what_is_returned_is_new(self):
        for call in (orders, least_orders, stops):
            told = call(CAUSE)
            kept = copy.deepcopy(told)
            told.clear()
            self.assertEqual(call(CAUSE), kept)
            self.assertIsNot(call(CAUSE), call(CAUSE))

    def test_by_name(self):
        for call in (orders, least_orders, stops, steady):
            self.assertEqual(call(plant=CAUSE), call(CAUSE))
        self.assertIs(is_steady(plant=CAUSE, value=steady(CAUSE)[1]), True)


class TestStops(unittest.TestCase):
    def test_the_example_of_the_document(self):
        self.assertEqual(stops(BEFORE), {(): "never", ("a",): "never", ("a", "b"): "sometimes", ("b",): "never"})

    def test_parts_that_fail_by_causes_are_not_counted(self):
        self.assertEqual(stops(CAUSE), {(): "never", ("a",): "always", ("a", "b"): "always", ("a", "b", "c"): "always",
                                        ("a", "c"): "always", ("b",): "never", ("b", "c"): "always", ("c",): "never"})
        # Behind a, c has failed; the set of both is reached by c and then a alone.
        self.assertEqual(list(stops(plant_of("a c", [("g", "all", ("a", "c"))], [("a", ("c",)), ("c", ("a",))]))),
                         [(), ("a",), ("c",)])

    def test_sets_that_are_not_reached(self):
        self.assertEqual(stops(NEVER), {(): "never", ("a",): "never"})
        self.assertNotIn(("s",), stops(SPARES))
        self.assertNotIn(("a", "t"), stops(SPARES))
        self.assertEqual(stops(SPARES), reference.stops(values_of(SPARES)))

    def test_sets_behind_a_stop(self):
        self.assertEqual(stops(FIRST), {(): "never", ("a",): "always", ("a", "b"): "always", ("b",): "always"})

    def test_some_orders_only(self):
        self.assertEqual(stops(so_many(3)), {(): "never", ("a",): "never", ("a", "b"): "never",
                                             ("a", "b", "c"): "sometimes", ("a", "c"): "never", ("b",): "never",
                                             ("b", "c"): "never", ("c",): "never"})

    def test_a_plant_that_nothing_happens_to(self):
        self.assertEqual(stops(plant_of("*a", [("g", "all", ("a",))])), {(): "never"})

    def test_against_rows_played_one_by_one(self):
        found = set()
        for values, plant in made_plants(150, 4):
            told = stops(plant)
            self.assertEqual(told, reference.stops(values))
            self.assertEqual(list(told), sorted(told))
            found |= set(told.values())
        self.assertEqual(found, {"always", "sometimes", "never"})


class TestSteady(unittest.TestCase):
    def test_a_failure_that_saves_the_plant(self):
        word, one, other = steady(SAVED)
        self.assertEqual((word, one, other), ("saved", ("a", "c"), ("b", "a", "c")))
        self.assertEqual((stopped_behind(SAVED, one), stopped_behind(SAVED, other)), (True, False))

    def test_the_relation_of_a_steady_plant(self):
        state = {name: (tuple(name), (), ()) for name in ["", "a", "b", "ab"]}
        held = (("a", "b"), (), ("g",))
        wanted = {(state[""], state["a"]), (state[""], state["b"]), (state["a"], held), (state["a"], state["ab"]),
                  (state["b"], state["ab"]), (state["b"], held)}
        word, relation = steady(BEFORE)
        self.assertEqual((word, len(relation), set(relation)), ("steady", 6, wanted))
        self.assertIsInstance(relation, tuple)

    def test_pairs_that_differ_by_a_part_that_has_fallen_in_both(self):
        # Behind a the part c has fallen: c and then a leads to where a alone leads to.
        plant = plant_of("a c", [("g", "all", ("a", "c"))], [("a", ("c",))])
        self.assertIn(((("a", "c"), (), ()), (("a", "c"), (), ())), steady(plant)[1])
        self.assertTrue(is_steady(plant, steady(plant)[1]))

    def test_against_rows_played_one_by_one(self):
        words = {"steady": 0, "saved": 0}
        for values, plant in made_plants(100, 4) + made_plants(160, 4, 8, SAVING_WORDS):
            wanted = reference.steady(values)
            told = steady(plant)
            words[told[0]] += 1
            self.assertEqual(told[0], wanted[0])
            if told[0] == "steady":
                self.assertEqual((len(told[1]), set(told[1])), (len(wanted[1]), wanted[1]))
                self.assertIs(is_steady(plant, told[1]), True)
            else:
                self.check_saved(plant, told[1], told[2])
                self.assertEqual(len(told[1]), wanted[1])
        self.assertGreater(min(words.values()), 5)

    def check_saved(self, plant, one, other):
        self.assertIsInstance(one, tuple)
        self.assertIsInstance(other, tuple)
        self.assertIn(one, [other[:at] + other[at + 1:] for at in range(len(other))])
        self.assertIs(stopped_behind(plant, one), True)
        self.assertIs(stopped_behind(plant, other), False)

    def test_always_the_same(self):
        for plant in (SAVED, BEFORE, SPARES):
            self.assertEqual(steady(plant), steady(plant))


class TestIsSteady(unittest.TestCase):
    def test_one_pair_more_or_less_or_twice_or_exchanged(self):
        for plant in (BEFORE, CAUSE, SPARES, FIRST, so_many(3)):
            word, relation = steady(plant)
            self.assertEqual(word, "steady")
            self.assertIs(is_steady(plant, relation), True)
            self.assertIs(is_steady(plant, relation[::-1]), True)
            start = relation[0][0]
            self.assertIs(is_steady(plant, relation + ((start, start),)), False)
            for at, (one, other) in enumerate(relation):
                self.assertIs(is_steady(plant, relation[:at] + relation[at + 1:]), False)
                self.assertIs(is_steady(plant, relation + (relation[at],)), False)
                self.assertIs(is_steady(plant, relation[:at] + (relation[at - 1],) + relation[at + 1:]), False)
                for wrong in [(other, one), [one, other], (one,), (one, other, other), one, (one, start),
                              (list(one), other), (one, list(other)), ((list(one[0]),) + one[1:], other)]:
                    if wrong not in relation:
                        self.assertIs(is_steady(plant, relation[:at] + (wrong,) + relation[at + 1:]), False, wrong)

    def test_a_plant_with_one_state(self):
        plant = plant_of("*a", [("g", "all", ("a",))])
        self.assertEqual(steady(plant), ("steady", ()))
        self.assertIs(is_steady(plant, ()), True)
        self.assertIs(is_steady(plant, []), False)

    def test_a_plant_that_is_not_steady(self):
        pairs = tuple({(one.state(), other.state())
                       for _, _, one, other in reference.longer_by_one(values_of(SAVED))})
        self.assertIs(is_steady(SAVED, pairs), False)
        self.assertIs(is_steady(SAVED, ()), False)
        self.assertIs(is_steady(SAVED, steady(SAVED)), False)

    def test_any_value(self):
        relation = steady(BEFORE)[1]
        for value in ANY_VALUES + [list(relation), dict.fromkeys(relation), ("steady", relation)]:
            kept = copy.deepcopy(value)
            self.assertIs(is_steady(BEFORE, value), False)
            self.assertIs(is_steady(BEFORE, (value,)), False)
            self.assertIs(is_steady(BEFORE, relation[:-1] + (value,)), False)
            self.assertIs(is_steady(BEFORE, relation[:-1] + ((value, relation[-1][1]),)), False)
            self.assertEqual(value, kept)


if __name__ == "__main__":
    unittest.main()
