import copy
import inspect
import itertools
import unittest

from faultorder.alike import are_different, compare, is_relation
from faultorder.errors import Mismatch, TooMany
from faultorder.machines import machine_of
from faultorder.plants import Plant
from tests import reference
from tests.making import ANY_VALUES, Choices, events, made_plants, plant_of, values_of

ALL = plant_of("a b", [("g", "all", ("a", "b"))])
ANY = plant_of("a b", [("g", "any", ("a", "b"))])
BEFORE = plant_of("a b", [("g", "before", "a", "b")])
# Alike to ALL, and written unlike: a stop is that a failed first, or b, and no event brings both down.
EITHER = plant_of("b a", [("x", "before", "a", "b"), ("y", "before", "b", "a"), ("h", "any", ("y", "x"))])
COLD = plant_of("a *b", [("g", "all", ("a", "b"))])


def rewritten(values):
    """The values of plants that are alike or nearly so to that of some values."""
    parts, gates, causes, top = values
    yield parts[::-1], gates, causes, top
    yield parts, gates, causes[::-1], top
    yield parts, gates, [], top
    yield parts, gates, causes, gates[0][0]
    yield parts, [least_word(gate) for gate in gates], causes, top
    yield [(name, "hot") for name, _ in parts], gates, causes, top
    yield parts, [gate[:2] + (gate[3], gate[2]) if gate[1] == "before" else gate for gate in gates], causes, top
    if len(gates) < 8:
        yield parts, gates + [("zz", "spare", tuple([name for name, _ in parts]))], causes, top
        yield parts, gates + [("zz", "before", parts[0][0], top)], causes, top
        yield parts, gates + [("zz", "any", (top, parts[0][0]))], causes, "zz"


def least_word(gate):
    if gate[1] in ("all", "any"):
        return (gate[0], "least", len(gate[2]) if gate[1] == "all" else 1, gate[2])
    return gate


def made_pairs(count):
    """The values of so many pairs of plants with the same parts, some of which are alike."""
    for values, _ in made_plants(count, 3, 4):
        yield values, values
        for other in rewritten(values):
            if not reference.Model(*other).is_true(other[3]):
                yield values, other


class TestCompare(unittest.TestCase):
    def test_plants_that_are_alike_and_written_unlike(self):
        word, relation = compare(ALL, EITHER)
        both = ("a", "b")
        wanted = {(((), (), ()), ((), (), ())), ((("a",), (), ()), (("a",), (), ())),
                  ((("b",), (), ()), (("b",), (), ())), ((both, (), ()), (both, (), ("x",))),
                  ((both, (), ()), (both, (), ("y",)))}
        self.assertEqual((word, len(relation), set(relation)), ("alike", 5, wanted))
        self.assertIsInstance(relation, tuple)
        self.assertEqual(machine_of(ALL), machine_of(EITHER))

    def test_the_pairs_are_in_the_order_of_the_plants(self):
        for one, other in [(ALL, EITHER), (EITHER, ALL)]:
            for pair in compare(one, other)[1]:
                self.assertEqual([name for name, _ in pair[0][1]], [gate[0] for gate in one.gates if gate[1] == "spare"])
            self.assertTrue(is_relation(one, other, compare(one, other)[1]))
        self.assertFalse(is_relation(EITHER, ALL, compare(ALL, EITHER)[1]))

    def test_a_plant_is_alike_to_itself(self):
        self.assertEqual(compare(BEFORE, BEFORE)[0], "alike")
        self.assertEqual(len(compare(BEFORE, BEFORE)[1]), 5)

    def test_by_a_stop(self):
        self.assertEqual(compare(ALL, ANY), ("differ", tuple(events("a"))))
        self.assertEqual(compare(ANY, ALL), ("differ", tuple(events("a"))))
        self.assertEqual(compare(ALL, BEFORE), ("differ", tuple(events("b a"))))

    def test_by_what_is_possible(self):
        self.assertEqual(compare(ALL, COLD), ("differ", tuple(events("b"))))
        self.assertEqual(compare(COLD, ALL), ("differ", tuple(events("b"))))
        # No event of either plant has stopped it yet.
        self.assertEqual(compare(plant_of("*a b", [("g", "all", ("a", "b"))]),
                                 plant_of("a *b", [("g", "all", ("a", "b"))])), ("differ", tuple(events("a"))))

    def test_by_a_cause(self):
        # c falls behind a in one of both, and can be mended then.
        one = plant_of("a b c", [("g", "all", ("a", "b", "c"))], [("a", ("c",))])
        other = plant_of("a b c", [("g", "all", ("a", "b", "c"))])
        self.assertEqual(compare(one, other), ("differ", tuple(events("a b"))))
        never = plant_of("a b c *s", [("g", "all", ("a", "s"))], [("a", ("c",))])
        nor_this = plant_of("a b c *s", [("g", "all", ("a", "s"))])
        self.assertEqual(compare(never, nor_this), ("differ", tuple(events("a c"))))

    def test_they_differ_late(self):
        names = tuple("abcdef")
        one = plant_of("a b c d e f", [("g", "all", names)])
        other = plant_of("a b c d e f", [("w", "before", "b", "a"), ("x", "before", "f", "a"), ("v", "any", ("w", "x")),
                                         ("g", "all", names + ("v",))])
        self.assertEqual(compare(one, other), ("differ", tuple(events("a b c d e f"))))
        # They differ by mends alone: behind the mend of a the spare gate goes on with s.
        one = plant_of("a *s", [("u", "spare", ("a", "s")), ("g", "all", ("a", "s"))])
        other = plant_of("a *s", [("u", "spare", ("a", "s")), ("v", "all", ("a", "s")), ("g", "all", ("v", "u"))])
        self.assertEqual(compare(one, other)[0], "alike")
        other = plant_of("a *s", [("w", "all", ("a",)), ("u", "spare", ("a", "s")), ("v", "before", "a", "s"),
                                  ("g", "all", ("v", "w"))])
        self.assertEqual(compare(one, other), ("differ", tuple(events("a s -a a"))))

    def test_the_names_of_gates_mean_nothing(self):
        self.assertEqual(compare(ALL, plant_of("a b", [("zz", "all", ("b", "a"))]))[0], "alike")

    def test_against_rows_played_one_by_one(self):
        words = {"alike": 0, "differ": 0}
        longest = 0
        for one, other in made_pairs(60):
            wanted = reference.compare(one, other)
            told = compare(Plant(*one), Plant(*other))
            words[told[0]] += 1
            if wanted[0] == "alike":
                self.assertEqual((told[0], len(told[1]), set(told[1])), ("alike", len(wanted[1]), wanted[1]))
                self.assertIs(is_relation(Plant(*one), Plant(*other), told[1]), True)
            else:
                self.assertEqual(told, wanted[:2])
                self.assertIs(are_different(Plant(*one), Plant(*other), told[1]), True)
                longest = max(longest, len(told[1]))
            self.assertEqual(machine_of(Plant(*one)) == machine_of(Plant(*other)), told[0] == "alike")
        self.assertGreater(min(words.values()), 50)
        self.assertGreater(longest, 3)

    def test_always_the_same_and_nothing_changed(self):
        kept = copy.deepcopy((values_of(ALL), values_of(EITHER)))
        self.assertEqual(compare(ALL, EITHER), compare(ALL, EITHER))
        self.assertEqual((values_of(ALL), values_of(EITHER)), kept)

    def test_by_name(self):
        relation = compare(one=ALL, other=EITHER, most=100)[1]
        self.assertIs(is_relation(one=ALL, other=EITHER, value=relation), True)
        self.assertIs(are_different(one=ALL, other=ANY, value=tuple(events("a"))), True)
        with self.assertRaises(TypeError):
            compare(ALL, EITHER, 100)


class TestMost(unittest.TestCase):
    def refused(self, one, other, most):
        with self.assertRaises(TooMany) as caught:
            compare(one, other, most=most)
        self.assertEqual(caught.exception.most, most)

    def test_around_the_number_of_pairs(self):
        for one, other in [(ALL, EITHER), (BEFORE, BEFORE), (ALL, ALL)]:
            many = len(compare(one, other)[1])
            for most in (-1, 0, 1, many - 1):
                self.refused(one, other, most)
            for most in (many, many + 1):
                self.assertEqual(compare(one, other, most=most), compare(one, other))

    def test_a_difference_ends_the_search(self):
        # The first event tells it, and only the first pair has been counted.
        self.assertEqual(compare(ALL, ANY, most=1), ("differ", tuple(events("a"))))
        self.refused(ALL, ANY, 0)
        # Behind a and b from the beginning; the third and fourth pair come behind a and then b, and behind b.
        self.assertEqual(compare(ALL, BEFORE, most=4), ("differ", tuple(events("b a"))))
        self.refused(ALL, BEFORE, 3)

    def test_pairs_are_counted_at_once(self):
        for one, other in made_pairs(25):
            word, _, many = reference.compare(one, other)
            for most in (0, 1, many - 1):
                if most < many:
                    self.refused(Plant(*one), Plant(*other), most)
            for most in (many, many + 1):
                self.assertEqual(compare(Plant(*one), Plant(*other), most=most)[0], word)

    def test_none_is_passed(self):
        self.assertEqual(inspect.signature(compare).parameters["most"].default, 20000)
        names = "abcdefgh"
        gates = [("w" + name, "before", name, names[(at + 1) % 8]) for at, name in enumerate(names)]
        ring = Plant([(name, "hot") for name in names], gates, [], "wa")
        self.assertEqual(len(compare(ring, ring)[1]), 2205)
        back = [("w" + name, "before", names[(at + 1) % 8], name) for at, name in enumerate(names[:7])]
        other = Plant([(name, "hot") for name in names], back + [("wh", "before", "a", "b")], [], "wh")
        told = compare(ring, other)
        self.assertEqual(told[0], "alike")
        self.assertIs(is_relation(ring, other, told[1]), True)
        self.refused(ring, other, len(told[1]) - 1)


class TestMismatch(unittest.TestCase):
    def test_other_names(self):
        for other in [plant_of("a c", [("g", "all", ("a", "c"))]), plant_of("a", [("g", "all", ("a",))]),
                      plant_of("a b c", [("g", "all", ("a", "b"))]), plant_of("ab", [("g", "all", ("ab",))])]:
            for call in [lambda one, two: compare(one, two), lambda one, two: compare(one, two, most=0),
                         lambda one, two: is_relation(one, two, ()), lambda one, two: is_relation(one, two, None),
                         lambda one, two: are_different(one, two, tuple(events("a"))),
                         lambda one, two: are_different(one, two, [])]:
                for one, two in [(ALL, other), (other, ALL)]:
                    with self.assertRaises(Mismatch):
                        call(one, two)

    def test_orders_and_kinds_and_gates_may_differ(self):
        self.assertEqual(compare(plant_of("b a", [("x", "all", ("a", "b"))]), ALL)[0], "alike")
        self.assertEqual(compare(COLD, plant_of("*b a", [("x", "all", ("a", "b"))]))[0], "alike")
        # A cold part that is used whenever it works is as good as a hot one.
        used = plant_of("a *b", [("u", "spare", ("b",)), ("g", "all", ("a", "u"))])
        self.assertEqual((compare(used, ALL)[0], machine_of(used) == machine_of(ALL)), ("alike", True))


class TestIsRelation(unittest.TestCase):
    def setUp(self):
        self.relation = compare(ALL, EITHER)[1]

    def told(self, value):
        return is_relation(ALL, EITHER, value)

    def test_in_any_order(self):
        for order in itertools.permutations(self.relation):
            self.assertIs(self.told(order), True)

    def test_one_pair_more_or_less_or_twice_or_exchanged(self):
        relation = self.relation
        self.assertIs(self.told(()), False)
        for at, (one, other) in enumerate(relation):
            rest = relation[:at] + relation[at + 1:]
            self.assertIs(self.told(rest), False)
            self.assertIs(self.told(relation + (relation[at],)), False)
            self.assertIs(self.told(rest + (relation[at - 1],)), False)
            for wrong in [[one, other], (one,), (one, other, other), (list(one), other), (one, list(other)), one,
                          (one, other[:2]), (one, other[:2] + (["x"],)), (one, other[:2] + (("z",),)),
                          ((one[0] + ("c",),) + one[1:], other), {one: other}, ((True, (), ()), other)]:
                self.assertIs(self.told(rest + (wrong,)), False, wrong)
                self.assertIs(self.told(relation + (wrong,)), False, wrong)
            if one != other:
                self.assertIs(self.told(rest + ((other, one),)), False)

    def test_plants_that_differ(self):
        pairs = tuple([(state, state) for state in reference.Graph(values_of(BEFORE)).rows])
        self.assertIs(is_relation(BEFORE, BEFORE, pairs), True)
        self.assertIs(is_relation(ALL, ANY, tuple([(state, state) for state in reference.Graph(values_of(ALL)).rows])),
                      False)
        # Not even the pairs that are come to ahead of the difference, whichever these are.
        everything = [(one, other) for one in reference.Graph(values_of(ALL)).rows for other, _ in pairs
                      if one[0] == other[0]]
        for other in (BEFORE, ANY):
            for many in range(len(everything) + 1):
                for value in itertools.combinations(everything, many):
                    self.assertIs(is_relation(ALL, other, value), False)

    def test_any_value(self):
        for value in ANY_VALUES + [list(self.relation), dict.fromkeys(self.relation), ("alike", self.relation)]:
            kept = copy.deepcopy(value)
            self.assertIs(self.told(value), False)
            self.assertIs(self.told((value,)), False)
            self.assertIs(self.told(self.relation[:-1] + (value,)), False)
            self.assertIs(self.told(self.relation[:-1] + ((self.relation[-1][0], value),)), False)
            self.assertEqual(value, kept)


class TestAreDifferent(unittest.TestCase):
    def test_by_hand(self):
        for row, told in [("b a", True), ("a b", False), ("b", False), ("", False), ("b a -a", False),
                          ("a -a b a", True), ("b a a", False), ("a b -a a", True), ("c", False), ("b a c", False),
                          ("a b -b -a b a", True), ("a -b", False)]:
            self.assertIs(are_different(ALL, BEFORE, tuple(events(row))), told, row)
            self.assertIs(are_different(BEFORE, ALL, tuple(events(row))), told, row)
            self.assertIs(are_different(BEFORE, ALL, events(row)), False)

    def test_what_just_one_allows(self):
        for one, other in [(ALL, COLD), (COLD, ALL)]:
            for row, told in [("b", True), ("a b", True), ("a -a b", True), ("a", False), ("b a", False),
                              ("-b", False), ("b -b", False)]:
                self.assertIs(are_different(one, other, tuple(events(row))), told, row)

    def test_plants_that_are_alike(self):
        for row, _ in reference.all_rows(values_of(ALL), 4):
            self.assertIs(are_different(ALL, EITHER, row), False)

    def test_against_rows_played_one_by_one(self):
        told = {True: 0, False: 0}
        for seed, (one, other) in enumerate(made_pairs(30)):
            choices = Choices(seed)
            names = [name for name, _ in one[0]]
            for _ in range(12):
                row = tuple([(choices.one(["fail", "fail", "mend"]), choices.one(names))
                             for _ in range(1 + choices.below(4))])
                beginnings = [row[:many] for many in range(1, len(row))]
                wanted = (not any(reference.differ(one, other, less) or reference.led(one, less) is None
                                  for less in beginnings) and reference.differ(one, other, row))
                self.assertIs(are_different(Plant(*one), Plant(*other), row), wanted)
                told[wanted] += 1
        self.assertGreater(min(told.values()), 50)

    def test_any_value(self):
        for value in ANY_VALUES:
            kept = copy.deepcopy(value)
            for one, other in [(ALL, ANY), (ALL, COLD), (ALL, BEFORE)]:
                self.assertIs(are_different(one, other, value), False)
                self.assertIs(are_different(one, other, (value,)), False)
                self.assertIs(are_different(one, other, (("fail", "b"), value)), False)
            self.assertEqual(value, kept)
        for value in [("fail", "a"), "a", (["fail", "a"],), (("fail", "a", "a"),), (("fail",),), ((("fail", "a"),),),
                      [("fail", "a")], {("fail", "a"): True}, (("fail", ("a",)),)]:
            self.assertIs(are_different(ALL, ANY, value), False)
        self.assertIs(are_different(ALL, ANY, (("fail", "a"),)), True)


if __name__ == "__main__":
    unittest.main()
