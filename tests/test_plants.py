import copy
import unittest

from faultorder.errors import BadPlant
from faultorder.plants import Plant, is_name
from tests.making import ANY_VALUES, make_values
from tests.model import Model

PARTS = [("p", "hot"), ("q", "hot"), ("s", "cold")]
GATES = [("two", "all", ("p", "q")), ("use", "spare", ("p", "s"))]
CAUSES = [("two", ("s",))]
# One plant with each word of gates.
WORDS = [("e", "all", ("p", "q")), ("f", "any", ("e", "s")), ("g", "least", 2, ("p", "f", "s")),
         ("h", "before", "g", "p"), ("i", "spare", ("q", "s"))]
CAUSES_OF_WORDS = [("h", ("q",)), ("p", ("s", "q"))]


class TestNames(unittest.TestCase):
    def test_names(self):
        for value in ["a", "z", "ab", "abcdef", "zzzzzz", "hot", "all"]:
            self.assertIs(is_name(value), True, value)
            self.assertIs(is_name(value=value), True)

    def test_no_names(self):
        for value in ANY_VALUES + ["abcdefg", "Ab", "aB", "a_b", "a-b", "1", "a ", " a", "\na", "a{", "`a"]:
            self.assertIs(is_name(value), False, value)


class TestBadPlant(unittest.TestCase):
    def refused(self, number, parts, gates, causes, top):
        values = copy.deepcopy((parts, gates, causes, top))
        with self.assertRaises(BadPlant, msg=values) as caught:
            Plant(parts, gates, causes, top)
        self.assertEqual(caught.exception.part, number, values)
        self.assertEqual((parts, gates, causes, top), values)

    def refused_parts(self, parts):
        self.refused(0, parts, GATES, CAUSES, "two")

    def refused_gates(self, gates):
        self.refused(1, PARTS, gates, [], "use")

    def refused_gate(self, gate):
        """As the only gate, and behind or ahead of others that are right."""
        self.refused_gates([gate])
        self.refused_gates(GATES + [gate])
        self.refused_gates([gate] + GATES)

    def refused_causes(self, causes):
        self.refused(2, PARTS, GATES, causes, "two")

    def refused_top(self, top):
        self.refused(3, PARTS, GATES, CAUSES, top)

    def test_parts_of_any_value(self):
        for value in ANY_VALUES + ["a", "hot"]:
            self.refused_parts(value)
            self.refused_parts([(value, "hot")] if not is_name(value) else [value])
            self.refused_parts([("p", value)] if value != "hot" else [value])
            if value != ("a", "hot"):
                self.refused_parts([value])
                self.refused_parts(PARTS + [value])
                self.refused_parts([value] + PARTS)

    def test_parts(self):
        for item in [("p",), ("p", "hot", "cold"), ["p", "hot"], ("p", "Hot"), ("p", "warm"), ("P", "hot"),
                     ("ppppppp", "hot"), ("", "hot"), ("hot", "p"), {"p": "hot"}, {"p": 1, "hot": 2}]:
            self.refused(0, [item], [("g", "any", ("p",))], [], "g")
            self.refused_parts(PARTS + [item])
        self.refused_parts(PARTS + [("p", "hot")])
        self.refused_parts(PARTS + [("p", "cold")])
        self.refused_parts({("p", "hot"): 1})
        self.refused_parts([])
        self.refused_parts(())

    def test_how_many_parts(self):
        eight = [(name, "hot") for name in "abcdefgh"]
        gates = [("x", "any", ("a",))]
        self.assertEqual(Plant(eight, gates, [], "x").parts, tuple(eight))
        self.refused(0, eight + [("i", "hot")], gates, [], "x")
        self.assertEqual(Plant([("a", "cold")], gates, [], "x").parts, (("a", "cold"),))

    def test_gates_of_any_value(self):
        for value in ANY_VALUES:
            self.refused_gates(value)
            self.refused_gate(value)
            self.refused_gate((value, "all", ("p",)))
            self.refused_gate(("x", value, ("p",)))
            self.refused_gate(("x", value, "p", "q"))
            self.refused_gate(("x", value, 1, ("p",)))
            for word in ["all", "any", "spare"]:
                self.refused_gate(("x", word, value))
                self.refused_gate(("x", word, (value,)))
                self.refused_gate(("x", word, ("p", value)))
                self.refused_gate(("x", word, (value, "p")))
                self.refused_gate(("x", word, ("p",), value))
            if value != 1 or value is True:
                self.refused_gate(("x", "least", value, ("p",)))
            self.refused_gate(("x", "least", 1, value))
            self.refused_gate(("x", "least", 1, (value,)))
            self.refused_gate(("x", "least", 1, ("p", value)))
            self.refused_gate(("x", "least", 1, ("p",), value))
            self.refused_gate(("x", "before", value, "p"))
            self.refused_gate(("x", "before", "p", value))
            self.refused_gate(("x", "before", value, value))
            self.refused_gate(("x", "before", "p", "q", value))

    def test_names_of_gates(self):
        for name in ["p", "s", "two", "use", "X", "abcdefg", ""]:
            self.refused_gates(GATES + [(name, "any", ("p",))])

    def test_inputs_of_gates(self):
        for inputs in [(), ("p", "p"), ("p", "q", "p"), ["p"], "p", ("x",), ("later",), ("none",), ("p", "none"),
                       {"p": 1}, (("p",),)]:
            for gate in [("x", "all", inputs), ("x", "any", inputs), ("x", "least", 1, inputs)]:
                self.refused_gates([gate, ("later", "any", ("p",)), ("use", "spare", ("p",))])
        for parts in [(), ("p", "p"), ["p"], "p", ("x",), ("two",), ("p", "two"), ("none",)]:
            self.refused_gates(GATES + [("x", "spare", parts)])

    def test_numbers_of_least(self):
        inputs = ("p", "q", "s")
        for number in [0, 4, -1, 10 ** 30, True, False, None, "1", "2", (1,), [2], {}]:
            self.refused_gate(("x", "least", number, inputs))
        for number in [1, 2, 3]:
            Plant(PARTS, [("x", "least", number, inputs)], [], "x")
        Plant(PARTS, [("x", "least", 1, ("p",))], [], "x")

    def test_inputs_of_before(self):
        for one, other in [("p", "p"), ("p", "x"), ("x", "p"), ("p", "none"), ("none", "p"), ("p", "later"),
                           (("p",), "q"), ("p", ["q"])]:
            self.refused_gates([("x", "before", one, other), ("later", "any", ("p",)), ("use", "spare", ("p",))])
        self.refused_gate(("x", "before", ("p", "q")))
        self.refused_gate(("x", "before", "p"))

    def test_forms_of_gates(self):
        for gate in [("x",), ("x", "all"), ("x", "any"), ("x", "least"), ("x", "least", 1), ("x", "before"),
                     ("x", "spare"), ("x", "all", "p", "q"), ("x", "all", 1, ("p",)), ("x", "least", ("p",)),
                     ("x", "least", ("p",), 1), ("x", "ALL", ("p",)), ("x", "none", ("p",)), ("x", "", ("p",)),
                     ("all", "x", ("p",)), ["x", "all", ("p",)], {"x": 1, "all": 2, ("p",): 3}, "xyz",
                     ("x", "spare", "p"), ("x", "hot", ("p",)), ("x", "before", "p", "q", "s")]:
            self.refused_gate(gate)

    def test_how_many_gates(self):
        eight = [(name, "any", ("p",)) for name in "abcdefgh"]
        self.assertEqual(Plant(PARTS, eight, [], "h").gates, tuple(eight))
        self.refused(1, PARTS, eight + [("i", "any", ("p",))], [], "h")
        self.refused(1, PARTS, [], [], "h")
        self.refused(1, PARTS, (), [], "h")

    def test_causes_of_any_value(self):
        for value in ANY_VALUES:
            if value not in ([], ()):
                self.refused_causes(value)
            self.refused_causes([value])
            self.refused_causes(CAUSES + [value])
            self.refused_causes([(value, ("p",))])
            self.refused_causes([("two", value)])
            self.refused_causes([("two", (value,))])
            self.refused_causes([("two", ("p", value))])
            self.refused_causes([("two", ("p",), value)])

    def test_causes(self):
        for cause in [("two",), ("two", ("p",), ("q",)), ["two", ("p",)], ("two", ["p"]), ("two", "p"), ("two", ()),
                      ("none", ("p",)), ("two", ("none",)), ("two", ("use",)), ("two", ("p", "p")),
                      ("two", ("p", "use")), (("two",), ("p",)), {"two": ("p",)}, {"two": 1, ("p",): 2}]:
            self.refused_causes([cause])
            self.refused_causes(CAUSES + [cause])

    def test_how_many_causes(self):
        four = [("p", ("q",)), ("p", ("q",)), ("two", ("q", "p", "s")), ("use", ("s",))]
        self.assertEqual(Plant(PARTS, GATES, four, "two").causes, tuple(four))
        self.refused_causes(four + [("p", ("s",))])
        self.assertEqual(Plant(PARTS, GATES, [], "two").causes, ())
        self.assertEqual(Plant(PARTS, GATES, (), "two").causes, ())

    def test_tops(self):
        for value in ANY_VALUES + ["p", "q", "s", "none", "all", ("two",), ["two"], "Two", "two "]:
            self.refused_top(value)

    def test_tops_that_are_true_at_the_beginning(self):
        gates = [("one", "spare", ("p",)), ("other", "spare", ("p",)), ("both", "all", ("one", "other")),
                 ("some", "any", ("one", "other")), ("first", "before", "other", "one"),
                 ("late", "least", 1, ("q", "other")), ("third", "spare", ("p", "q"))]
        for top, number in [("one", None), ("other", 3), ("both", None), ("some", 3), ("first", None), ("late", 3),
                            ("third", None)]:
            if number is None:
                self.assertEqual(Plant(PARTS, gates, [], top).top, top)
            else:
                self.refused(number, PARTS, gates, [], top)

    def test_the_first_error_is_raised(self):
        self.refused(0, [], [], [()], "none")
        self.refused(0, None, None, None, None)
        self.refused(1, PARTS, [], [()], "none")
        self.refused(1, PARTS, None, None, None)
        self.refused(2, PARTS, GATES, [()], "none")
        self.refused(2, PARTS, GATES, None, None)
        self.refused(3, PARTS, GATES, [], "none")

    def test_made_plants(self):
        refused = 0
        for seed in range(400):
            values = make_values(seed)
            if Model(*values).is_true(values[3]):
                self.refused(3, *values)
                refused += 1
            else:
                self.assertEqual(Plant(*values).top, values[3])
        self.assertGreater(refused, 5)


class TestPlant(unittest.TestCase):
    def test_what_it_keeps(self):
        plant = Plant(PARTS, WORDS, CAUSES_OF_WORDS, "g")
        self.assertEqual(plant.parts, (("p", "hot"), ("q", "hot"), ("s", "cold")))
        self.assertEqual(plant.gates, tuple(WORDS))
        self.assertEqual(plant.causes, (("h", ("q",)), ("p", ("s", "q"))))
        self.assertEqual(plant.top, "g")

    def test_all_of_it_are_tuples(self):
        plant = Plant(PARTS, WORDS, CAUSES_OF_WORDS, "g")
        for rows in [plant.parts, plant.gates, plant.causes]:
            self.assertIs(type(rows), tuple)
            self.assertEqual([type(row) for row in rows], [tuple] * len(rows))
            for row in rows:
                self.assertLessEqual({type(item) for item in row}, {str, int, tuple})

    def test_by_name(self):
        plant = Plant(top="two", causes=CAUSES, gates=GATES, parts=PARTS)
        self.assertEqual(plant, Plant(PARTS, GATES, CAUSES, "two"))

    def test_tuples_for_lists(self):
        self.assertEqual(Plant(tuple(PARTS), tuple(GATES), tuple(CAUSES), "two"), Plant(PARTS, GATES, CAUSES, "two"))

    def test_names_of_one_letter_and_of_six(self):
        plant = Plant([("a", "hot"), ("zzzzzz", "cold")], [("b", "spare", ("a", "zzzzzz")),
                                                         ("yyyyyy", "before", "b", "a")], [], "yyyyyy")
        self.assertEqual(plant.top, "yyyyyy")

    def test_words_and_kinds_may_be_names(self):
        plant = Plant([("hot", "cold"), ("all", "hot")], [("spare", "any", ("all", "hot"))], [], "spare")
        self.assertEqual(plant.top, "spare")

    def test_what_is_passed_is_copied(self):
        parts, gates, causes = list(PARTS), list(GATES), list(CAUSES)
        plant = Plant(parts, gates, causes, "two")
        parts.append(("x", "hot"))
        parts[0] = ("y", "hot")
        gates.clear()
        causes[0] = None
        self.assertEqual(plant, Plant(PARTS, GATES, CAUSES, "two"))
        self.assertEqual((plant.parts, plant.gates, plant.causes), (tuple(PARTS), tuple(GATES), tuple(CAUSES)))

    def test_what_is_passed_is_not_changed(self):
        parts, gates, causes = list(PARTS), list(GATES), list(CAUSES)
        Plant(parts, gates, causes, "two")
        self.assertEqual((parts, gates, causes), (PARTS, GATES, CAUSES))

    def test_equality(self):
        plant = Plant(PARTS, GATES, CAUSES, "two")
        self.assertTrue(plant == Plant(list(PARTS), list(GATES), list(CAUSES), "two"))
        self.assertFalse(plant != Plant(PARTS, GATES, CAUSES, "two"))
        hotter = [("p", "hot"), ("q", "hot"), ("s", "hot")]
        others = [Plant(hotter, GATES, CAUSES, "two"),
                  Plant(PARTS[::-1], GATES, CAUSES, "two"),
                  Plant(PARTS, GATES[::-1], CAUSES, "two"),
                  Plant(PARTS, GATES + [("x", "any", ("p",))], CAUSES, "two"),
                  Plant(PARTS, [("two", "all", ("q", "p")), GATES[1]], CAUSES, "two"),
                  Plant(PARTS, GATES, [], "two"),
                  Plant(PARTS, GATES, CAUSES + CAUSES, "two"),
                  Plant(PARTS, GATES, [("two", ("p",))], "two"),
                  Plant(PARTS, GATES, CAUSES, "use")]
        for other in others:
            self.assertTrue(plant != other)
            self.assertFalse(plant == other)

    def test_unequal_to_any_other_value(self):
        plant = Plant(PARTS, GATES, CAUSES, "two")
        for value in ANY_VALUES + [(plant.parts, plant.gates, plant.causes, plant.top), Plant, "two"]:
            self.assertIs(plant == value, False)
            self.assertIs(plant != value, True)
            self.assertIs(value == plant, False)


if __name__ == "__main__":
    unittest.main()
