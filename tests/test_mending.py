import copy
import itertools
import unittest

from faultorder.errors import NoNumber, NoPart
from faultorder.mending import is_attack, is_plan, kept, lasts, least_crew, least_mendable
from faultorder.runs import Run
from tests import games
from tests.making import ANY_VALUES, Choices, events, is_hashable, made_plants, plant_of, values_of

BOTH = plant_of("a b", [("g", "all", ("a", "b"))])
ANY = plant_of("a b", [("g", "any", ("a", "b"))])
THREE = plant_of("a b c", [("g", "all", ("a", "b", "c"))])
NEVER = plant_of("a *s", [("g", "all", ("a", "s"))])
BEFORE = plant_of("a b c", [("x", "before", "a", "b"), ("g", "all", ("x", "c"))])
CAUSE = plant_of("a b c", [("g", "all", ("a", "b", "c"))], [("a", ("b",))])
# Which of both gets s, and which one waits, hangs on the order of the mends.
SHARED = plant_of("a b s t", [("u", "spare", ("a", "s", "t")), ("v", "spare", ("b", "t", "s")),
                              ("x", "all", ("u", "a")), ("y", "all", ("v", "b")), ("g", "any", ("x", "y"))])
START = ((), (), ())


def state_of(plant, text):
    run = Run(plant)
    run.do_all(events(text))
    return run.state


def state(*failed):
    return tuple(failed), (), ()


def parts_of(plant):
    return sorted(name for name, _ in plant.parts)


class TestKept(unittest.TestCase):
    def test_the_example_of_the_document(self):
        self.assertEqual((least_crew(BOTH), lasts(BOTH, 0), kept(BOTH, 1)[0]), (1, 2, "kept"))

    def test_a_plan_by_hand(self):
        self.assertEqual(kept(BOTH, 1), ("kept", {(START, "a"): ("a",), (START, "b"): ("b",)}))
        self.assertEqual(kept(BOTH, 1, mendable=["a"])[0], "lost")

    def test_an_attack_by_hand(self):
        word, attack = kept(BOTH, 0)
        self.assertEqual(word, "lost")
        self.assertIn(attack, [{START: (1, "a"), state("a"): (0, "b")}, {START: (1, "b"), state("b"): (0, "a")}])
        self.assertEqual(kept(BOTH, 5, mendable=["a"]), ("lost", {START: (1, "b"), state("b"): (0, "a")}))
        word, attack = kept(THREE, 0)
        self.assertEqual(sorted(rank for rank, _ in attack.values()), [0, 1, 2])

    def test_a_plant_that_its_first_failure_stops(self):
        for crew in (0, 1, 3):
            word, attack = kept(ANY, crew)
            self.assertEqual((word, list(attack)), ("lost", [START]))
            self.assertIn(attack[START], [(0, "a"), (0, "b")])
            self.assertEqual(lasts(ANY, crew), 1)
        self.assertIsNone(least_crew(ANY))
        self.assertEqual(least_mendable(ANY, 3), [])

    def test_a_plant_that_nothing_stops(self):
        for crew in (0, 1, 3):
            word, plan = kept(NEVER, crew)
            self.assertEqual(word, "kept")
            self.assertIs(is_plan(NEVER, crew, None, plan), True)
            self.assertIsNone(lasts(NEVER, crew))
        self.assertEqual(kept(NEVER, 0), ("kept", {(START, "a"): ()}))
        self.assertEqual((least_crew(NEVER), least_mendable(NEVER, 0), least_mendable(NEVER, 2)), (0, [()], [()]))

    def test_a_plant_in_which_nothing_can_fail(self):
        plant = plant_of("*a", [("g", "all", ("a",))])
        self.assertEqual(kept(plant, 0), ("kept", {}))
        self.assertIs(is_plan(plant, 0, None, {}), True)
        self.assertIs(is_attack(plant, 0, None, {}), False)

    def test_no_mendable_parts(self):
        for plant in (BOTH, THREE, CAUSE, BEFORE):
            for none in ([], ()):
                told = kept(plant, 3, mendable=none)
                self.assertEqual(told, kept(plant, 0))
                self.assertEqual(told[0], "lost")
                self.assertEqual(lasts(plant, 3, mendable=none), lasts(plant, 0))

    def test_none_is_passed(self):
        for crew in (0, 1):
            self.assertEqual(kept(BOTH, crew), kept(BOTH, crew, mendable=None))
            self.assertEqual(kept(BOTH, crew), kept(BOTH, crew, mendable=["b", "a"]))
            self.assertEqual(lasts(BOTH, crew), lasts(BOTH, crew, mendable=("a", "b")))

    def test_how_long_it_lasts(self):
        for plant, crew, mendable, number in [
                (BOTH, 0, None, 2), (BOTH, 1, ["a"], 2), (THREE, 0, None, 3), (THREE, 1, ["a"], 3),
                (THREE, 1, ["a", "b"], None), (THREE, 0, ["a", "b"], 3), (CAUSE, 0, None, 2), (CAUSE, 1, None, None),
                (CAUSE, 1, ["c"], 2), (CAUSE, 1, ["b"], 2), (CAUSE, 2, ["a", "b"], 2), (CAUSE, 1, ["a", "c"], None),
                (CAUSE, 1, ["b", "c"], None), (BEFORE, 0, None, 3), (BEFORE, 1, ["c"], 3), (BEFORE, 3, ["b"], 3),
                (BEFORE, 1, ["a"], None)]:
            self.assertEqual(lasts(plant, crew, mendable=mendable), number, (plant.gates, crew, mendable))

    def test_answers_whose_order_counts(self):
        # Of a plant that goes on for ever, by answers in an order that is not ascending, and not descending.
        descending = plant_of("*g c f", [("o", "spare", ("c", "f")), ("b", "spare", ("c", "g"))], [("g", ("c",))], "o")
        ascending = plant_of("*b *n d", [("f", "any", ("n", "d")), ("i", "spare", ("b", "n")),
                                         ("l", "spare", ("d", "n"))], [("f", ("n",))], "i")
        for plant, order in [(descending, lambda answer: sorted(answer, reverse=True)), (ascending, sorted)]:
            word, plan = kept(plant, 2)
            self.assertEqual(word, "kept")
            self.assertTrue(games.is_plan(values_of(plant), 2, parts_of(plant), plan))
            exchanged = [{**plan, key: plan[key][::-1]} for key in plan if len(plan[key]) == 2]
            self.assertTrue([key for key in plan if len(plan[key]) == 2 and list(plan[key]) == order(plan[key])])
            for other in exchanged:
                self.assertIs(is_plan(plant, 2, None, other),
                              games.is_plan(values_of(plant), 2, parts_of(plant), other))
            self.assertIn(False, [is_plan(plant, 2, None, other) for other in exchanged])

    def test_against_the_second_model(self):
        words, ranks, answers = {"kept": 0, "lost": 0}, set(), set()
        for seed, (values, plant) in enumerate(made_plants(150, 4, 6)):
            choices = Choices(seed)
            crew = choices.below(4)
            mendable = choices.one([None, None, list(choices.some(parts_of(plant))), []])
            able = parts_of(plant) if mendable is None else mendable
            word, told = kept(plant, crew, mendable=mendable)
            words[word] += 1
            lost = games.lost(values, crew, able)
            number = lost.get(games.Table(values).first)
            self.assertEqual(lasts(plant, crew, mendable=mendable), number)
            self.assertEqual(list(told), sorted(told))
            if word == "kept":
                self.assertIsNone(number)
                self.assertTrue(games.is_plan(values, crew, able, told))
                answers |= {len(answer) for answer in told.values()}
            else:
                self.assertTrue(games.is_attack(values, crew, able, told))
                self.assertEqual({place: rank + 1 for place, (rank, _) in told.items()},
                                 {place: lost[place] for place in told})
                ranks |= {rank for rank, _ in told.values()}
            self.assertIs(is_plan(plant, crew, mendable, told), word == "kept")
            self.assertIs(is_attack(plant, crew, mendable, told), word == "lost")
        self.assertGreater(min(words.values()), 20)
        self.assertGreater(len(ranks), 2)
        self.assertGreater(len(answers), 1)

    def test_spare_gates_that_share_parts(self):
        for seed, (values, plant) in enumerate(made_plants(60, 4, 5, ["spare", "spare", "before", "all", "least"])):
            for crew in (1, 2):
                word, told = kept(plant, crew)
                check = games.is_plan if word == "kept" else games.is_attack
                self.assertTrue(check(values, crew, parts_of(plant), told), seed)
                self.assertEqual(lasts(plant, crew), games.lasts(values, crew, parts_of(plant)))

    def test_large_crews(self):
        for crew in (3, 4, 8, 10 ** 39):
            word, plan = kept(THREE, crew)
            self.assertEqual((word, plan), kept(THREE, 3))
            self.assertIs(is_plan(THREE, crew, None, plan), True)
            self.assertEqual(lasts(BOTH, crew, mendable=["a"]), 2)

    def test_six_parts(self):
        plant = plant_of("a b c d e f", [("u", "spare", ("a", "b", "c")), ("v", "spare", ("c", "d", "a")),
                                         ("x", "before", "e", "f"), ("g", "all", ("u", "v", "x"))])
        for crew in (0, 1, 2, 3):
            word, told = kept(plant, crew)
            check = is_plan if word == "kept" else is_attack
            self.assertIs(check(plant, crew, None, told), True)

    def test_by_name(self):
        self.assertEqual(kept(plant=BOTH, crew=1, mendable=["a", "b"]), kept(BOTH, 1))
        plan, attack = kept(BOTH, 1)[1], kept(BOTH, 0)[1]
        self.assertIs(is_plan(plant=BOTH, crew=1, mendable=None, value=plan), True)
        self.assertIs(is_attack(plant=BOTH, crew=0, mendable=None, value=attack), True)
        self.assertEqual(lasts(plant=BOTH, crew=0, mendable=None), 2)
        self.assertEqual(least_crew(plant=BOTH), 1)
        self.assertEqual(least_mendable(plant=BOTH, crew=1), [("a", "b")])
        for call in (lambda: kept(BOTH, 1, None), lambda: lasts(BOTH, 1, None)):
            self.assertRaises(TypeError, call)


class TestLeastCrew(unittest.TestCase):
    def test_by_hand(self):
        for plant, crew in [(BOTH, 1), (ANY, None), (THREE, 1), (NEVER, 0)]:
            self.assertEqual(least_crew(plant), crew)

    def test_crews_above_three(self):
        # a brings all others but t down, and the failure of t behind that of any of them stops the plant.
        for many in (1, 2, 3, 4):
            parts = tuple("abcd"[:many])
            causes = [("a", parts[1:])] if many > 1 else []
            plant = plant_of(" ".join(parts) + " t", [("x", "any", parts), ("g", "before", "x", "t")], causes)
            self.assertEqual(least_crew(plant), many)
            self.assertEqual(kept(plant, many - 1)[0], "lost")

    def test_against_the_second_model(self):
        found = set()
        for values, plant in made_plants(60, 4, 5):
            crew = least_crew(plant)
            self.assertEqual(crew, by_crews(plant))
            found.add(crew)
        self.assertGreater(len(found), 2)


def by_crews(plant):
    """The least crew, by the second model."""
    parts = parts_of(plant)
    return next((crew for crew in range(len(parts) + 1) if games.lasts(values_of(plant), crew, parts) is None), None)


class TestLeastMendable(unittest.TestCase):
    def test_by_hand(self):
        self.assertEqual(least_mendable(BOTH, 1), [("a", "b")])
        self.assertEqual(least_mendable(BOTH, 0), [])
        self.assertEqual(least_mendable(THREE, 1), [("a", "b"), ("a", "c"), ("b", "c")])
        self.assertEqual(least_mendable(THREE, 0), [])

    def test_by_length_then_ascending(self):
        plant = plant_of("d c b a", [("x", "all", ("a", "b")), ("y", "all", ("c", "d")), ("g", "all", ("x", "y"))])
        told = least_mendable(plant, 2)
        self.assertEqual(told, sorted(told, key=lambda parts: (len(parts), parts)))
        self.assertEqual(told, [parts for parts in itertools.combinations("abcd", 2)])

    def test_against_all_tuples(self):
        lengths = set()
        for seed, (values, plant) in enumerate(made_plants(50, 4, 5)):
            crew = Choices(seed).below(3)
            enough = [parts for many in range(5) for parts in itertools.combinations(parts_of(plant), many)
                      if games.lasts(values, crew, parts) is None]
            wanted = [parts for parts in enough
                      if not any(parts[:at] + parts[at + 1:] in enough for at in range(len(parts)))]
            self.assertEqual(least_mendable(plant, crew), wanted)
            lengths |= {(len(wanted), len(parts)) for parts in wanted}
        self.assertGreater(len(lengths), 3)

    def test_what_is_returned_is_new(self):
        told = least_mendable(THREE, 1)
        told.clear()
        self.assertEqual(least_mendable(THREE, 1), [("a", "b"), ("a", "c"), ("b", "c")])


class TestIsPlan(unittest.TestCase):
    def test_other_plans(self):
        plan = {(START, "a"): (), (START, "b"): ("b",), (state("a"), "b"): ("a", "b")}
        self.assertIs(is_plan(BOTH, 1, None, plan), False)
        # Behind the failure of a and then of b the plant has stopped.
        self.assertIs(is_plan(BOTH, 2, None, plan), False)
        plan = {(START, "a"): ("a",), (START, "b"): (), (START, "c"): ("c",), (state("b"), "a"): ("b", "a"),
                (state("b"), "c"): ("c", "b")}
        self.assertIs(is_plan(THREE, 2, None, plan), True)
        self.assertIs(is_plan(THREE, 2, ["c", "a", "b"], plan), True)
        self.assertIs(is_plan(THREE, 3, None, plan), True)
        self.assertIs(is_plan(THREE, 1, None, plan), False)
        for left in "abc":
            self.assertIs(is_plan(THREE, 2, [name for name in "abc" if name != left], plan), False)

    def test_one_key_or_answer_otherwise(self):
        count = 0
        for plant, crew, mendable in [(BOTH, 1, None), (THREE, 1, ["a", "b"]), (BEFORE, 1, ["a"]), (CAUSE, 1, None),
                                      (NEVER, 0, None), (SHARED, 1, None), (CAUSE, 2, None)]:
            word, plan = kept(plant, crew, mendable=mendable)
            self.assertEqual(word, "kept")
            able = parts_of(plant) if mendable is None else mendable
            values = values_of(plant)
            self.assertIs(is_plan(plant, crew, mendable, plan), True)
            for key in plan:
                rest = {other: plan[other] for other in plan if other != key}
                self.assertIs(is_plan(plant, crew, mendable, rest), False)
                for answer in games.all_answers(parts_of(plant) + ["g"], crew + 1):
                    other = {**rest, key: answer}
                    told = is_plan(plant, crew, mendable, other)
                    self.assertIs(told, games.is_plan(values, crew, able, other), (key, answer))
                    count += told
                for answer in [list(plan[key]), plan[key] + plan[key][:1], None, "", "a", {}, (1,), (None,), (("a",),),
                               (["a"],), True, 0, plan[key] + (key[1],) * 9]:
                    if answer != plan[key]:
                        self.assertIs(is_plan(plant, crew, mendable, {**rest, key: answer}), False, answer)
        self.assertGreater(count, 20)

    def test_keys_that_nothing_leads_to(self):
        plan = kept(BOTH, 1)[1]
        for key in [(START, "c"), (START, "g"), (state("a"), "b"), START, "a", None, 1, (), (START,), ("a", START),
                    (START, "a", "a"), True, ((), "a"), ((("a",), (), ()), "a")]:
            for answer in [(), ("a",), ("b",)]:
                self.assertIs(is_plan(BOTH, 1, None, {**plan, key: answer}), False, key)

    def test_the_order_of_the_keys(self):
        for plant, crew in [(BOTH, 1), (THREE, 1), (CAUSE, 1), (SHARED, 3)]:
            word, told = kept(plant, crew)
            check = is_plan if word == "kept" else is_attack
            for order in (list(told)[::-1], sorted(told, key=lambda key: str(key)[::-1])):
                self.assertIs(check(plant, crew, None, {key: told[key] for key in order}), True)

    def test_any_value(self):
        plan = kept(BOTH, 1)[1]
        key = (START, "a")
        for value in ANY_VALUES + [("kept", plan), [plan], list(plan.items())]:
            saved = copy.deepcopy(value)
            self.assertIs(is_plan(BOTH, 1, None, value), False)
            self.assertIs(is_plan(BOTH, 1, None, {**plan, key: value}), value == ("a",))
            self.assertIs(is_plan(BOTH, 1, None, {**plan, key: (value,)}), False)
            self.assertEqual(value, saved)
            if not isinstance(value, (list, dict)) and is_hashable(value):
                self.assertIs(is_plan(BOTH, 1, None, {**plan, value: ("a",)}), False)
                self.assertIs(is_plan(BOTH, 1, None, {**plan, (START, value): ("a",)}), False)

    def test_a_plan_is_no_attack(self):
        self.assertIs(is_attack(BOTH, 1, None, kept(BOTH, 1)[1]), False)
        self.assertIs(is_plan(BOTH, 0, None, kept(BOTH, 0)[1]), False)
        self.assertIs(is_plan(BOTH, 0, None, {}), False)
        self.assertIs(is_attack(BOTH, 0, None, {}), False)


class TestIsAttack(unittest.TestCase):
    ATTACK = {START: (1, "a"), state("a"): (0, "b")}

    def told(self, attack, plant=BOTH, crew=0, mendable=None):
        return is_attack(plant, crew, mendable, attack)

    def test_ranks(self):
        for one, other, right in [(1, 0, True), (2, 0, True), (2, 1, True), (10 ** 39, 5, True), (1, 1, False),
                                  (0, 0, False), (0, 1, False), (1, -1, False), (0, -1, False), (True, 0, False),
                                  (1, False, False), (2, True, False), ("1", 0, False), (None, 0, False), (1, None, False),
                                  ((1,), 0, False), ([1], [0], False)]:
            self.assertIs(self.told({START: (one, "a"), state("a"): (other, "b")}), right, (one, other))

    def test_parts(self):
        for part in ("b", "c", "g", "", None, 1, ("a",), ["a"], True, {"a": 1}):
            self.assertIs(self.told({**self.ATTACK, START: (1, part)}), False)
        for part in ("a", "c", "g", None, ("b",), ["b"]):
            self.assertIs(self.told({**self.ATTACK, state("a"): (0, part)}), False)

    def test_a_stop_has_any_rank(self):
        for rank in (0, 1, 7, 10 ** 39):
            self.assertIs(self.told({START: (rank, "a")}, ANY), True)
        # It leads to no further state.
        self.assertIs(self.told({START: (1, "a"), state("a"): (0, "b")}, ANY), False)

    def test_keys(self):
        self.assertIs(self.told(self.ATTACK), True)
        self.assertIs(self.told({START: (1, "a")}), False)
        self.assertIs(self.told({state("a"): (0, "b")}), False)
        for key in (state("b"), state("a", "b"), (), "a", None, 0, True, state("c"), (("a",), ()), ((), (), (), ())):
            self.assertIs(self.told({**self.ATTACK, key: (0, "a")}), False, key)

    def test_entries(self):
        for entry in [[0, "b"], (0,), (0, "b", "b"), ("b", 0), 0, "b", None, (), {0: "b"}, ((0, "b"),), "0b"]:
            self.assertIs(self.told({**self.ATTACK, state("a"): entry}), False, entry)
            self.assertIs(self.told({**self.ATTACK, state("b"): entry}), False, entry)
        for entry in [[1, "a"], (1,), (1, "a", "a"), ("a", 1)]:
            self.assertIs(self.told({**self.ATTACK, START: entry}), False, entry)

    def test_other_crews(self):
        attack = {START: (1, "b"), state("b"): (0, "a")}
        self.assertIs(self.told(attack, crew=3, mendable=["a"]), True)
        self.assertIs(self.told(attack, crew=3, mendable=[]), True)
        self.assertIs(self.told(attack, crew=0), True)
        self.assertIs(self.told(attack, crew=1, mendable=["a", "b"]), False)
        self.assertIs(self.told(attack, crew=1, mendable=["b"]), False)
        self.assertIs(self.told(attack, crew=1), False)

    def test_all_answers_are_asked_for(self):
        plant = THREE
        word, attack = kept(plant, 1, mendable=["a"])
        self.assertEqual(word, "lost")
        for key in attack:
            rest = {other: attack[other] for other in attack if other != key}
            self.assertIs(self.told(rest, plant, 1, ["a"]), False)

    def test_one_entry_otherwise(self):
        count = 0
        for plant, crew, mendable in [(THREE, 0, None), (THREE, 1, ["a"]), (BEFORE, 0, None), (CAUSE, 1, ["c"]),
                                      (SHARED, 1, ["s"]), (SHARED, 2, ["s", "t"]), (CAUSE, 0, None)]:
            word, attack = kept(plant, crew, mendable=mendable)
            self.assertEqual(word, "lost")
            able = parts_of(plant) if mendable is None else mendable
            for key in attack:
                for rank in (0, 1, 2, 3, 7, attack[key][0] + 1):
                    for part in parts_of(plant) + ["g"]:
                        other = {**attack, key: (rank, part)}
                        told = is_attack(plant, crew, mendable, other)
                        self.assertIs(told, games.is_attack(values_of(plant), crew, able, other), (key, rank, part))
                        count += told
        self.assertGreater(count, 20)

    def test_any_value(self):
        for value in ANY_VALUES + [("lost", self.ATTACK), [self.ATTACK]]:
            saved = copy.deepcopy(value)
            self.assertIs(self.told(value), False)
            self.assertIs(self.told({**self.ATTACK, START: value}), False)
            self.assertIs(self.told({**self.ATTACK, START: (value, "a")}), value in (1, 7, 10 ** 39) and value is not True)
            self.assertIs(self.told({**self.ATTACK, START: (1, value)}), False)
            self.assertEqual(value, saved)
            if is_hashable(value):
                self.assertIs(self.told({**self.ATTACK, value: (0, "b")}), False)


class TestErrors(unittest.TestCase):
    def calls(self, crew, mendable):
        yield lambda: kept(BOTH, crew, mendable=mendable)
        yield lambda: lasts(BOTH, crew, mendable=mendable)
        yield lambda: is_plan(BOTH, crew, mendable, {})
        yield lambda: is_plan(BOTH, crew, mendable, None)
        yield lambda: is_attack(BOTH, crew, mendable, {})
        yield lambda: is_attack(BOTH, crew, mendable, None)

    def test_no_number(self):
        for crew in ANY_VALUES + [-1, -10 ** 39, "1", (1,), [0]]:
            if isinstance(crew, bool) or not isinstance(crew, int) or crew < 0:
                saved = copy.deepcopy(crew)
                calls = [call for mendable in (None, [], ["c"], 7) for call in self.calls(crew, mendable)]
                for call in calls + [lambda: least_mendable(BOTH, crew)]:
                    with self.assertRaises(NoNumber, msg=crew) as caught:
                        call()
                    self.assertEqual(caught.exception.number, crew)
                    self.assertIs(type(caught.exception.number), type(crew))
                self.assertEqual(crew, saved)

    def refused(self, mendable, index):
        saved = copy.deepcopy(mendable)
        for crew in (0, 1):
            for call in self.calls(crew, mendable):
                with self.assertRaises(NoPart, msg=mendable) as caught:
                    call()
                self.assertEqual(caught.exception.index, index)
        self.assertEqual(mendable, saved)

    def test_no_part(self):
        for value in ANY_VALUES + ["c", "g", ("a",), ["a"], "ab", ("a", "b")]:
            self.refused([value], 0)
            self.refused(["a", value], 1)
            self.refused(("b", "a", value, value), 2)
            self.refused(["b", value, "b"], 1)
        self.refused(["a", "a"], 1)
        self.refused(["b", "a", "b", "c"], 2)

    def test_neither_a_list_nor_none(self):
        for value in ANY_VALUES + ["a", "ab", {"a": True}]:
            if not isinstance(value, (list, tuple)) and value is not None:
                self.refused(value, 0)


class TestCopies(unittest.TestCase):
    def test_nothing_is_changed(self):
        mendable = ["b", "a"]
        for crew in (0, 1):
            first = kept(BOTH, crew, mendable=mendable)
            saved = copy.deepcopy(first)
            self.assertEqual(mendable, ["b", "a"])
            check = is_plan if first[0] == "kept" else is_attack
            self.assertIs(check(BOTH, crew, mendable, first[1]), True)
            self.assertEqual(first, saved)
            first[1].clear()
            self.assertEqual(kept(BOTH, crew, mendable=mendable), saved)
        lasts(BOTH, 0, mendable=mendable)
        self.assertEqual(mendable, ["b", "a"])


if __name__ == "__main__":
    unittest.main()
