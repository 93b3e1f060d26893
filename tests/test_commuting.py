import copy
import itertools
import unittest

from faultorder.commuting import apart, commuting
from faultorder.errors import NoPart
from tests import reference
from tests.making import ANY_VALUES, made_plants, plant_of

BEFORE = plant_of("a b", [("g", "before", "a", "b")])
ALL = plant_of("b c a", [("g", "all", ("a", "b", "c"))])
# Only behind c it counts which of a and b fails first.
BEHIND = plant_of("a b c", [("y", "all", ("a", "c")), ("g", "before", "y", "b")])


class TestCommuting(unittest.TestCase):
    def told(self, plant):
        """What apart tells of each pair that does not commute; it must be what commuting tells."""
        names = sorted(name for name, _ in plant.parts)
        found = {}
        together = []
        for p, q in itertools.combinations(names, 2):
            answer = apart(plant, p, q)
            self.assertEqual(apart(plant, q, p), answer)
            if answer is None:
                together.append((p, q))
            else:
                found[p, q] = answer
        self.assertEqual(commuting(plant), together)
        return found

    def test_the_example_of_the_document(self):
        self.assertEqual(self.told(BEFORE), {("a", "b"): ()})

    def test_all_commute(self):
        self.assertEqual(commuting(ALL), [("a", "b"), ("a", "c"), ("b", "c")])
        self.assertEqual(self.told(ALL), {})

    def test_one_part(self):
        self.assertEqual(commuting(plant_of("a", [("g", "all", ("a",))])), [])

    def test_at_every_state_but_one(self):
        self.assertEqual(self.told(BEHIND), {("a", "b"): ("c",), ("b", "c"): ("a",)})
        self.assertEqual(commuting(BEHIND), [("a", "c")])
        # Only behind c and then d: e watches whether c failed ahead of d.
        plant = plant_of("a b c d", [("e", "before", "c", "d"), ("y", "all", ("a", "e")), ("g", "before", "y", "b")])
        self.assertEqual(apart(plant, "a", "b"), ("c", "d"))
        plant = plant_of("a b c d", [("e", "before", "d", "c"), ("y", "all", ("a", "e")), ("g", "before", "y", "b")])
        self.assertEqual(apart(plant, "a", "b"), ("d", "c"))

    def test_states_that_are_unlike_but_alike(self):
        # Nothing asks for w, which tells the order.
        plant = plant_of("a b", [("w", "before", "a", "b"), ("g", "all", ("a", "b"))])
        self.assertEqual(commuting(plant), [("a", "b")])

    def test_states_that_only_mends_tell_apart(self):
        # Both spare gates go on with s and t, the one or the other way round; the mends tell which.
        plant = plant_of("a b *s *t", [("u", "spare", ("a", "s", "t")), ("v", "spare", ("b", "s", "t")),
                                       ("g", "all", ("u", "a"))])
        self.assertEqual(self.told(plant), reference.apart((plant.parts, plant.gates, plant.causes, plant.top)))
        self.assertEqual(apart(plant, "a", "b"), ())

    def test_stops_in_between_are_not_compared(self):
        # a alone stops the plant, b alone does not; both together have stopped it.
        plant = plant_of("a b", [("g", "any", ("a",))])
        self.assertEqual(commuting(plant), [("a", "b")])

    def test_one_brings_the_other_one_down(self):
        gates = [("g", "all", ("a", "b"))]
        self.assertEqual(self.told(plant_of("a b", gates, [("a", ("b",))])), {("a", "b"): ()})
        self.assertEqual(self.told(plant_of("a b", gates, [("b", ("a",))])), {("a", "b"): ()})

    def test_each_brings_the_other_one_down(self):
        gates = [("g", "all", ("a", "b"))]
        both = [("a", ("b",)), ("b", ("a",))]
        self.assertEqual(commuting(plant_of("a b", gates, both)), [("a", "b")])
        # Behind neither can the other one fail, but who fell first has taken s away from the other one.
        plant = plant_of("a b *s", [("u", "spare", ("a", "s")), ("v", "spare", ("b", "s")), ("g", "any", ("u",))], both)
        self.assertEqual(self.told(plant), {("a", "b"): ()})

    def test_parts_that_never_can_both_fail(self):
        plant = plant_of("a *s *t", [("u", "spare", ("a", "s")), ("g", "all", ("a", "u"))])
        self.assertIn(("s", "t"), commuting(plant))
        self.assertIn(("a", "t"), commuting(plant))
        self.assertIn(("a", "s"), commuting(plant))

    def test_plants_with_spare_gates(self):
        for values, plant in made_plants(60, 3, 6, ["spare", "spare", "before", "all"]):
            self.assertEqual(self.told(plant), reference.apart(values))

    def test_against_rows_played_one_by_one(self):
        found = []
        for values, plant in made_plants(150, 4, 6):
            wanted = reference.apart(values)
            self.assertEqual(self.told(plant), wanted)
            found.extend([len(parts) for parts in wanted.values()])
        self.assertGreater(min(found.count(many) for many in range(2)), 3)

    def test_six_parts(self):
        names = "abcdef"
        plant = plant_of(" ".join(names), [("y", "all", tuple("abcde")), ("g", "before", "y", "f")])
        self.assertEqual(apart(plant, "f", "a"), ("b", "c", "d", "e"))
        self.assertEqual(commuting(plant), list(itertools.combinations("abcde", 2)))

    def test_what_is_returned_is_new(self):
        told = commuting(ALL)
        told.clear()
        self.assertEqual(commuting(ALL), [("a", "b"), ("a", "c"), ("b", "c")])

    def test_by_name(self):
        self.assertEqual(commuting(plant=BEHIND), [("a", "c")])
        self.assertEqual(apart(plant=BEHIND, p="b", q="a"), ("c",))


class TestNoPart(unittest.TestCase):
    def refused(self, p, q, index):
        kept = copy.deepcopy((p, q))
        with self.assertRaises(NoPart, msg=(p, q)) as caught:
            apart(BEHIND, p, q)
        self.assertEqual(caught.exception.index, index)
        self.assertEqual((p, q), kept)

    def test_any_value(self):
        for value in ANY_VALUES + ["g", "y", "d", ("a",), ["b"], "ab", "A"]:
            self.refused(value, "a", 0)
            self.refused("a", value, 1)
            self.refused(value, value, 0)
            for other in ANY_VALUES[:5]:
                self.refused(value, other, 0)

    def test_the_same_part_twice(self):
        for name in "abc":
            self.refused(name, name, 1)


if __name__ == "__main__":
    unittest.main()
