import copy
import itertools
import unittest

from faultorder.blind import blind, is_blind_attack, is_blind_plan, least_eyes
from faultorder.errors import NoNumber, NoPart, NoSensor, TooMany
from faultorder.mending import kept
from tests import games
from tests.making import ANY_VALUES, Choices, is_hashable, made_plants, plant_of, values_of

BOTH = plant_of("a b", [("g", "all", ("a", "b"))])
ANY = plant_of("a b", [("g", "any", ("a", "b"))])
THREE = plant_of("a b c", [("two", "least", 2, ("a", "b", "c")), ("g", "all", ("a", "b", "c"))])
NEVER = plant_of("a *s", [("g", "all", ("a", "s"))])
SPARES = plant_of("a b *s", [("u", "spare", ("a", "s")), ("g", "all", ("u", "b"))])
# Behind the failure of c nothing can fail: d is cold, and used by no gate.
END = plant_of("a c *d", [("x", "any", ("a", "c")), ("g", "all", ("x", "d"))], [("c", ("a",))])
START = ((), (), ())


def state(*failed):
    return tuple(failed), (), ()


def names_of(plant):
    return [name for name, _ in plant.parts] + [gate[0] for gate in plant.gates]


def parts_of(plant):
    return sorted(name for name, _ in plant.parts)


def knowing(plant, sensors, crew, mendable=None):
    return games.Knowing(values_of(plant), sensors, crew, parts_of(plant) if mendable is None else mendable)


class TestBlind(unittest.TestCase):
    def test_a_plan_by_hand(self):
        # Whatever has failed, it is mended.
        self.assertEqual(blind(BOTH, [], 2), ("kept", {((START,), ()): ("a", "b")}))
        self.assertEqual(blind(BOTH, ["b"], 1),
                         ("kept", {((START,), (False,)): ("a",), ((START,), (True,)): ("b",)}))

    def test_an_attack_by_hand(self):
        word, attack = blind(BOTH, [], 1)
        self.assertEqual(word, "lost")
        both = (state("a"), state("b"))
        self.assertEqual(attack, {(START,): (1, ()), both: (0, None), (START, state("a")): (0, None),
                                  (START, state("b")): (0, None)})

    def test_a_plant_that_its_first_failure_stops(self):
        for sensors in ([], ["a"], ["a", "b"]):
            self.assertEqual(blind(ANY, sensors, 3), ("lost", {(START,): (0, None)}))

    def test_a_plant_that_nothing_stops(self):
        word, plan = blind(NEVER, [], 0)
        self.assertEqual((word, plan), ("kept", {((START,), ()): ()}))

    def test_states_in_which_nothing_can_fail_drop_out(self):
        # Behind the failure of a, which nothing of is seen, c may still fail; behind that of c nothing can.
        word, plan = blind(END, [], 0)
        self.assertEqual(word, "kept")
        first = (state("a"), state("a", "c"))
        self.assertEqual(plan, {((START,), ()): (), (first, ()): ()})
        self.assertNotIn(((state("a", "c"),), ()), plan)

    def test_nothing_can_fail(self):
        plant = plant_of("*a", [("g", "all", ("a",))])
        for sensors in ([], ["a"], ["g"]):
            self.assertEqual(blind(plant, sensors, 0), ("kept", {}))
            self.assertIs(is_blind_plan(plant, sensors, 0, None, {}), True)
            self.assertIs(is_blind_attack(plant, sensors, 0, None, {}), False)

    def test_all_parts_as_sensors(self):
        # Parts alone may not tell which spare is used, but here they do.
        for plant in (BOTH, ANY, THREE, SPARES):
            for crew in (0, 1, 2):
                self.assertEqual(blind(plant, parts_of(plant), crew)[0], kept(plant, crew)[0])

    def test_no_mendable_parts(self):
        for sensors in ([], ["a"]):
            for none in ([], ()):
                self.assertEqual(blind(BOTH, sensors, 3, mendable=none), blind(BOTH, sensors, 0))
                self.assertEqual(blind(BOTH, sensors, 3, mendable=none)[0], "lost")

    def test_none_is_passed(self):
        self.assertEqual(blind(BOTH, ["a"], 1), blind(BOTH, ("a",), 1, mendable=None, most=2000))
        self.assertEqual(blind(BOTH, ["a"], 1), blind(BOTH, ["a"], 1, mendable=["b", "a"]))
        self.assertEqual(blind(BOTH, ["a"], 1), blind(BOTH, ["a"], 1, mendable=("a", "b")))

    def test_against_the_second_model(self):
        words, depths, sizes = {"kept": 0, "lost": 0}, set(), set()
        for seed, (values, plant) in enumerate(made_plants(140, 3, 5)):
            choices = Choices(seed)
            sensors = choices.some(names_of(plant), 3)[choices.below(2):]
            crew = choices.below(4)
            mendable = choices.one([None, None, list(choices.some(parts_of(plant)))])
            game = games.Knowing(values, sensors, crew, parts_of(plant) if mendable is None else mendable)
            number = games.blind_lasts(game.everything(), game.first)
            word, told = blind(plant, sensors, crew, mendable=mendable)
            words[word] += 1
            self.assertEqual(word, "kept" if number is None else "lost")
            self.assertEqual(list(told), sorted(told))
            if word == "kept":
                self.assertTrue(games.is_blind_plan(game, told))
                sizes |= {len(known) for known, _ in told}
            else:
                self.assertTrue(games.is_blind_attack(game, told))
                depths.add(told[(game.table.first,)][0])
            self.assertIs(is_blind_plan(plant, sensors, crew, mendable, told), word == "kept")
            self.assertIs(is_blind_attack(plant, sensors, crew, mendable, told), word == "lost")
            self.check_kinds(word, told)
        self.assertGreater(min(words.values()), 20)
        self.assertGreater(len(depths), 2)
        self.assertGreater(len(sizes), 2)

    def check_kinds(self, word, told):
        shows = [key[1] for key in told] if word == "kept" else [entry[1] for entry in told.values() if entry[1] is not None]
        for show in shows:
            self.assertEqual({type(truth) for truth in show} | {tuple, bool}, {tuple, bool})
        for known in [key[0] for key in told] if word == "kept" else told:
            self.assertEqual(list(known), sorted(set(known)))

    def test_four_parts(self):
        for values, plant in made_plants(12, 4, 5):
            for sensors in ([], parts_of(plant)[:2]):
                word, told = blind(plant, sensors, 2, most=10 ** 6)
                check = is_blind_plan if word == "kept" else is_blind_attack
                self.assertIs(check(plant, sensors, 2, None, told), True)

    def test_large_crews(self):
        for crew in (3, 4, 9, 10 ** 39):
            self.assertEqual(blind(THREE, [], crew), blind(THREE, [], 3))
            self.assertEqual(blind(THREE, [], crew)[0], "kept")
            plan = blind(THREE, [], 3)[1]
            self.assertIs(is_blind_plan(THREE, [], crew, None, plan), True)

    def test_by_name(self):
        told = blind(plant=BOTH, sensors=[], crew=2, mendable=None, most=100)
        self.assertIs(is_blind_plan(plant=BOTH, sensors=[], crew=2, mendable=None, value=told[1]), True)
        told = blind(BOTH, [], 1)
        self.assertIs(is_blind_attack(plant=BOTH, sensors=[], crew=1, mendable=None, value=told[1]), True)
        self.assertEqual(least_eyes(plant=BOTH, names=["a", "b"], crew=1, most=50), [("a",), ("b",)])
        for call in (lambda: blind(BOTH, [], 1, None), lambda: least_eyes(BOTH, [], 1, 100)):
            self.assertRaises(TypeError, call)


class TestTooMany(unittest.TestCase):
    def test_just_as_many_and_one_less(self):
        counts = set()
        for seed, (values, plant) in enumerate(made_plants(50, 3, 5)):
            choices = Choices(seed)
            sensors, crew = choices.some(names_of(plant), 3)[choices.below(2):], choices.below(3)
            many = len(games.Knowing(values, sensors, crew, parts_of(plant)).everything())
            counts.add(many)
            told = blind(plant, sensors, crew)
            self.assertEqual(blind(plant, sensors, crew, most=many), told)
            self.assertEqual(blind(plant, sensors, crew, most=many + 1), told)
            for most in (many - 1, 0, -1):
                with self.assertRaises(TooMany) as caught:
                    blind(plant, sensors, crew, most=most)
                self.assertEqual(caught.exception.most, most)
        self.assertGreater(len(counts), 8)

    def test_by_hand(self):
        # The beginning, and behind it the other three of an attack.
        for most in (1, 2, 3):
            self.assertRaises(TooMany, blind, BOTH, [], 1, most=most)
        self.assertEqual(blind(BOTH, [], 1, most=4), blind(BOTH, [], 1))
        # The knowledge in which the first failure stops it is counted, and not gone on from.
        self.assertEqual(blind(ANY, [], 3, most=1)[0], "lost")
        self.assertRaises(TooMany, blind, ANY, [], 3, most=0)

    def test_none_is_passed(self):
        plant = plant_of("a b c d", [("u", "spare", ("a", "b", "c")), ("v", "spare", ("d", "c", "b")),
                                     ("w", "spare", ("c", "d", "a")), ("x", "before", "a", "d"),
                                     ("y", "before", "c", "b"), ("z", "before", "u", "v"), ("g", "all", ("x", "y", "z", "w"))])
        many = len(knowing(plant, ["x"], 1).everything())
        self.assertGreater(many, 2000)
        with self.assertRaises(TooMany) as caught:
            blind(plant, ["x"], 1)
        self.assertEqual(caught.exception.most, 2000)
        with self.assertRaises(TooMany) as caught:
            least_eyes(plant, ["x"], 1)
        self.assertEqual(caught.exception.most, 2000)

    def test_least_eyes(self):
        # Without a sensor four knowledges are come to, with a alone three.
        counts = {sensors: len(knowing(BOTH, sensors, 1).everything()) for sensors in [(), ("a",), ("b",), ("a", "b")]}
        most = max(counts[()], counts["a",], counts["b",])
        self.assertEqual(least_eyes(BOTH, ["a", "b"], 1, most=most), [("a",), ("b",)])
        with self.assertRaises(TooMany) as caught:
            least_eyes(BOTH, ["a", "b"], 1, most=most - 1)
        self.assertEqual(caught.exception.most, most - 1)

    def test_tuples_are_tried_in_their_order(self):
        found = {"raised": 0, "told": 0}
        for seed, (values, plant) in enumerate(made_plants(30, 3, 4)):
            choices = Choices(seed)
            names, crew = choices.some(names_of(plant), 3), choices.below(3)
            wanted, tried = eyes(values, plant, names, crew)
            for most in {1, 2, max(tried), max(tried) - 1}:
                if max(tried) > most:
                    found["raised"] += 1
                    self.assertRaises(TooMany, least_eyes, plant, names, crew, most=most)
                else:
                    found["told"] += 1
                    self.assertEqual(least_eyes(plant, names, crew, most=most), wanted)
        self.assertGreater(min(found.values()), 20)


def eyes(values, plant, names, crew):
    """The least tuples of sensors by the second model, and how many knowledges each one that is tried comes to."""
    found, tried = [], []
    for many in range(len(names) + 1):
        for sensors in itertools.combinations(sorted(names), many):
            if not any(set(less) <= set(sensors) for less in found):
                game = games.Knowing(values, sensors, crew, parts_of(plant))
                everything = game.everything()
                tried.append(len(everything))
                if games.blind_lasts(everything, game.first) is None:
                    found.append(sensors)
    return found, tried


class TestLeastEyes(unittest.TestCase):
    def test_by_hand(self):
        self.assertEqual(least_eyes(BOTH, ["b", "a", "g"], 1), [("a",), ("b",)])
        self.assertEqual(least_eyes(BOTH, ["g"], 1), [])
        self.assertEqual(least_eyes(BOTH, [], 1), [])
        self.assertEqual(least_eyes(BOTH, ["b", "a", "g"], 2), [()])
        self.assertEqual(least_eyes(BOTH, [], 2), [()])
        self.assertEqual(least_eyes(BOTH, ["a", "b"], 0), [])
        self.assertEqual(least_eyes(ANY, ["a", "b", "g"], 3), [])
        self.assertEqual(least_eyes(NEVER, ["a", "s"], 0), [()])

    def test_tuples_are_ascending_whatever_the_order_of_the_names(self):
        for names in itertools.permutations(["a", "b", "c"]):
            told = least_eyes(THREE, names, 1)
            self.assertEqual(told, sorted(told, key=lambda sensors: (len(sensors), sensors)))
            self.assertEqual(told, least_eyes(THREE, ["a", "b", "c"], 1))

    def test_against_the_second_model(self):
        lengths = set()
        for seed, (values, plant) in enumerate(made_plants(60, 3, 4)):
            choices = Choices(seed)
            names, crew = choices.some(names_of(plant), 4), choices.below(3)
            wanted, _ = eyes(values, plant, names, crew)
            self.assertEqual(least_eyes(plant, list(names), crew), wanted)
            lengths |= {(len(wanted), len(sensors)) for sensors in wanted}
        self.assertGreater(len(lengths), 2)

    def test_what_is_returned_is_new(self):
        names = ["b", "a"]
        told = least_eyes(BOTH, names, 1)
        told.clear()
        self.assertEqual((least_eyes(BOTH, names, 1), names), ([("a",), ("b",)], ["b", "a"]))


class TestIsBlindPlan(unittest.TestCase):
    PLAN = {((START,), (False,)): ("a",), ((START,), (True,)): ("b",)}

    def told(self, plan, plant=BOTH, sensors=("b",), crew=1, mendable=None):
        return is_blind_plan(plant, list(sensors), crew, mendable, plan)

    def test_other_plans(self):
        self.assertIs(self.told(self.PLAN), True)
        self.assertIs(self.told({**self.PLAN, ((START,), (False,)): ("b",)}), False)
        # Mending a part that works does nothing; so a mender may always mend both.
        both = {key: ("b", "a") for key in self.PLAN}
        self.assertIs(self.told(both, crew=2), True)
        self.assertIs(self.told(both, crew=1), False)
        self.assertIs(self.told({((START,), ()): ("b", "a")}, sensors=(), crew=2), True)
        self.assertIs(self.told({((START,), ()): ("b", "b")}, sensors=(), crew=2), False)
        self.assertIs(self.told({((START,), ()): ("a", "b", "a")}, sensors=(), crew=3), False)
        self.assertIs(self.told({((START,), ()): ("a", "g")}, sensors=(), crew=2), False)

    def test_what_is_mendable(self):
        both = {key: ("b", "a") for key in self.PLAN}
        self.assertIs(self.told(both, crew=2, mendable=["a", "b"]), True)
        self.assertIs(self.told(both, crew=2, mendable=["a"]), False)
        self.assertIs(self.told(self.PLAN, mendable=["b"]), False)

    def test_the_knowledge_is_of_all_that_was_seen(self):
        plan = blind(END, [], 0)[1]
        first = (state("a"), state("a", "c"))
        self.assertIs(self.told(plan, END, (), 0), True)
        for key, answer in [((first, ()), ("a",)), ((first[:1], ()), ()), ((first[1:], ()), ()),
                            ((first[::-1], ()), ()), ((first + first[:1], ()), ()), ((first, (False,)), ())]:
            other = {**plan, key: answer}
            self.assertIs(self.told(other, END, (), 0), False)
        self.assertIs(self.told({((START,), ()): (), (first[::-1], ()): ()}, END, (), 0), False)
        self.assertIs(self.told({((START,), ()): (), (first[:1], ()): ()}, END, (), 0), False)

    def test_one_key_or_answer_otherwise(self):
        count = 0
        for plant, sensors, crew, mendable in [(BOTH, ["b"], 1, None), (BOTH, [], 2, None), (END, [], 0, None),
                                               (THREE, ["a", "b"], 1, None), (SPARES, ["a", "b"], 1, None),
                                               (THREE, ["two"], 2, None), (THREE, ["two"], 3, None),
                                               (SPARES, [], 2, ["a", "b"]), (SPARES, ["u"], 2, None)]:
            word, plan = blind(plant, sensors, crew, mendable=mendable)
            self.assertEqual(word, "kept")
            game = knowing(plant, sensors, crew, mendable)
            for key in plan:
                rest = {other: plan[other] for other in plan if other != key}
                self.assertIs(self.told(rest, plant, sensors, crew, mendable), False)
                for answer in games.all_answers(parts_of(plant) + ["g"], crew + 1):
                    other = {**rest, key: answer}
                    right = self.told(other, plant, sensors, crew, mendable)
                    self.assertIs(right, games.is_blind_plan(game, other), (key, answer))
                    count += right
        self.assertGreater(count, 20)

    def test_keys_that_nothing_leads_to(self):
        for key in [((START,), ()), ((START,), (True, False)), (START, (True,)), ((START,), True), (START,), (), None, 0,
                    ((state("a"),), (True,)), ((), (True,)), ((START, START), (True,)), ((START,), (None,)),
                    ((START,), ("",)), ((START,), (True,), ())]:
            for answer in [(), ("a",)]:
                self.assertIs(self.told({**self.PLAN, key: answer}), False, key)

    def test_one_and_zero_are_no_truths(self):
        self.assertEqual({((START,), (0,)): ("a",), ((START,), (1,)): ("b",)}, self.PLAN)
        self.assertIs(self.told({((START,), (0,)): ("a",), ((START,), (1,)): ("b",)}), False)
        self.assertIs(self.told({((START,), (0,)): ("a",), ((START,), (True,)): ("b",)}), False)
        self.assertIs(self.told({((START,), (False,)): ("a",), ((START,), (1,)): ("b",)}), False)

    def test_answers_of_another_kind(self):
        for key in self.PLAN:
            good = self.PLAN[key]
            for answer in [list(good), good[0], (good,), (list(good),), {good[0]: True}, None, True, (None,), good + good,
                           (True,), (1,)]:
                self.assertIs(self.told({**self.PLAN, key: answer}, crew=2), False, answer)

    def test_the_order_of_the_keys(self):
        for order in itertools.permutations(self.PLAN):
            self.assertIs(self.told({key: self.PLAN[key] for key in order}), True)

    def test_any_value(self):
        for value in ANY_VALUES + [("kept", self.PLAN), [self.PLAN], list(self.PLAN.items())]:
            saved = copy.deepcopy(value)
            self.assertIs(self.told(value), False)
            for key in self.PLAN:
                self.assertIs(self.told({**self.PLAN, key: value}), value == self.PLAN[key])
                self.assertIs(self.told({**self.PLAN, key: (value,)}), False)
            if is_hashable(value):
                for key in (value, (value, (True,)), ((START,), value), ((value,), (True,)), ((START,), (value,))):
                    if value is not True and value is not False:
                        rest = {key: ("b",), ((START,), (False,)): ("a",)}
                        self.assertIs(self.told(rest), False, key)
            self.assertEqual(value, saved)

    def test_a_plan_is_no_attack(self):
        self.assertIs(is_blind_attack(BOTH, ["b"], 1, None, self.PLAN), False)
        self.assertIs(self.told({}, crew=0), False)
        self.assertIs(is_blind_attack(BOTH, [], 0, None, {}), False)


class TestIsBlindAttack(unittest.TestCase):
    BEHIND = (state("a"), state("b"))
    ATTACK = {(START,): (1, ()), BEHIND: (0, None), (START, state("a")): (0, None), (START, state("b")): (0, None)}
    # With a sensor that shows only what the crew cannot mend.
    SEEING = {(START,): (1, (True,)), (state("a"),): (0, None)}

    def told(self, attack, plant=BOTH, sensors=(), crew=1, mendable=None):
        return is_blind_attack(plant, list(sensors), crew, mendable, attack)

    def seeing(self, attack):
        return self.told(attack, sensors=("a",), mendable=["b"])

    def test_right_ones(self):
        self.assertIs(self.told(self.ATTACK), True)
        self.assertIs(self.seeing(self.SEEING), True)
        self.assertIs(self.seeing({**self.SEEING, (START,): (10 ** 39, (True,))}), True)
        self.assertIs(self.seeing({(START,): (1, (False,)), (state("b"),): (0, None)}), False)

    def test_ranks(self):
        for rank in (0, -1, True, False, None, "1", (1,), [1]):
            self.assertIs(self.seeing({**self.SEEING, (START,): (rank, (True,))}), False, rank)
        for rank in (1, -1, 2, False, True, None, "0", ()):
            self.assertIs(self.seeing({**self.SEEING, (START,): (7, (True,)), (state("a"),): (rank, None)}), False, rank)

    def test_shown(self):
        for show in [(1,), (False,), (0,), (), (True, True), [True], True, None, ((True,),), "", (None,), {True: True}]:
            self.assertIs(self.seeing({**self.SEEING, (START,): (1, show)}), False, show)
        for show in [(True,), (False,), (), 0, False, "None", [None]]:
            self.assertIs(self.seeing({**self.SEEING, (state("a"),): (0, show)}), False, show)

    def test_a_failure_that_stops_it_at_once(self):
        self.assertIs(self.told({(START,): (0, None)}, ANY), True)
        for entry in [(1, None), (1, ()), (0, ()), (False, None), [0, None], (0,), (0, None, None), None, 0]:
            self.assertIs(self.told({(START,): entry}, ANY), False, entry)
        self.assertIs(self.told({(START,): (0, None)}), False)

    def test_keys(self):
        for key in self.ATTACK:
            rest = {other: self.ATTACK[other] for other in self.ATTACK if other != key}
            self.assertIs(self.told(rest), False)
        for key in [(state("a"),), (START, state("a"), state("b")), self.BEHIND[::-1], START, (), None, 0, (START, START)]:
            self.assertIs(self.told({**self.ATTACK, key: (0, None)}), False, key)
            self.assertIs(self.told({**self.ATTACK, key: (2, ())}), False, key)
        rest = {other: self.ATTACK[other] for other in self.ATTACK if other != self.BEHIND}
        self.assertIs(self.told({**rest, self.BEHIND[::-1]: (0, None)}), False)

    def test_entries(self):
        for key in self.ATTACK:
            rank, show = self.ATTACK[key]
            for entry in [[rank, show], (rank,), (rank, show, show), (show, rank), rank, show, {rank: show}]:
                self.assertIs(self.told({**self.ATTACK, key: entry}), False, entry)

    def test_other_crews(self):
        self.assertIs(self.told(self.ATTACK, crew=2), False)
        self.assertIs(self.told(self.ATTACK, crew=0), False)
        self.assertIs(self.told(self.ATTACK, crew=1, mendable=["a"]), False)
        self.assertIs(self.told(self.ATTACK, sensors=("a",)), False)
        self.assertIs(self.told({(START,): (1, (False,)), self.BEHIND: (0, None)}, sensors=("g",), crew=0), True)

    def test_one_entry_otherwise(self):
        count = 0
        for plant, sensors, crew, mendable in [(BOTH, [], 1, None), (BOTH, ["a"], 1, ["b"]), (THREE, [], 1, None),
                                               (THREE, ["two"], 1, None), (SPARES, ["b"], 1, ["a"]),
                                               (THREE, ["two"], 0, None)]:
            word, attack = blind(plant, sensors, crew, mendable=mendable)
            self.assertEqual(word, "lost")
            game = knowing(plant, sensors, crew, mendable)
            shows = list(itertools.product([True, False], repeat=len(sensors)))
            for key in attack:
                for rank in (0, 1, 2, 7, attack[key][0] + 1):
                    for show in shows + [None]:
                        other = {**attack, key: (rank, show)}
                        right = self.told(other, plant, sensors, crew, mendable)
                        self.assertIs(right, games.is_blind_attack(game, other), (key, rank, show))
                        count += right
        self.assertGreater(count, 20)

    def test_the_order_of_the_keys(self):
        for order in itertools.permutations(self.ATTACK):
            self.assertIs(self.told({key: self.ATTACK[key] for key in order}), True)

    def test_any_value(self):
        for value in ANY_VALUES + [("lost", self.ATTACK), [self.ATTACK]]:
            saved = copy.deepcopy(value)
            self.assertIs(self.told(value), False)
            for key in self.ATTACK:
                self.assertIs(self.told({**self.ATTACK, key: value}), False)
            right = value is not True and value in (1, 7, 10 ** 39)
            self.assertIs(self.seeing({**self.SEEING, (START,): (value, (True,))}), right)
            self.assertIs(self.seeing({**self.SEEING, (START,): (1, value)}), False)
            self.assertIs(self.seeing({**self.SEEING, (START,): (1, (value,))}), value is True)
            if is_hashable(value):
                self.assertIs(self.told({**self.ATTACK, value: (0, None)}), False)
            self.assertEqual(value, saved)


class TestErrors(unittest.TestCase):
    def calls(self, sensors, crew, mendable):
        for most in (2000, 0):
            yield lambda: blind(THREE, sensors, crew, mendable=mendable, most=most)
        for value in ({}, None):
            yield lambda: is_blind_plan(THREE, sensors, crew, mendable, value)
            yield lambda: is_blind_attack(THREE, sensors, crew, mendable, value)

    def refused(self, error, attribute, value, calls):
        for call in calls:
            with self.assertRaises(error) as caught:
                call()
            told = getattr(caught.exception, attribute)
            self.assertEqual((told, type(told)), (value, type(value)))

    def sensors_refused(self, sensors, index):
        saved = copy.deepcopy(sensors)
        calls = [call for crew in (0, 1, -1, True) for mendable in (None, ["x"], 7)
                 for call in self.calls(sensors, crew, mendable)]
        calls += [lambda: least_eyes(THREE, sensors, 1), lambda: least_eyes(THREE, sensors, -1, most=0)]
        self.refused(NoSensor, "index", index, calls)
        self.assertEqual(sensors, saved)

    def test_no_sensor(self):
        for value in ANY_VALUES + ["d", ("a",), ["a"], "ab", ("a", "b")]:
            self.sensors_refused([value], 0)
            self.sensors_refused(["a", value], 1)
            self.sensors_refused(("two", "g", value, value), 2)
            if not isinstance(value, (list, tuple)):
                self.sensors_refused(value, 0)
        self.sensors_refused(["a", "g", "a"], 2)

    def test_no_number(self):
        for crew in ANY_VALUES + [-1, -10 ** 39, "1", (1,), [0]]:
            if isinstance(crew, bool) or not isinstance(crew, int) or crew < 0:
                saved = copy.deepcopy(crew)
                calls = [call for mendable in (None, ["x"], 7) for call in self.calls(["a"], crew, mendable)]
                calls += [lambda: least_eyes(THREE, ["a"], crew), lambda: least_eyes(THREE, [], crew, most=0)]
                self.refused(NoNumber, "number", crew, calls)
                self.assertEqual(crew, saved)

    def parts_refused(self, mendable, index):
        saved = copy.deepcopy(mendable)
        self.refused(NoPart, "index", index, [call for crew in (0, 1) for call in self.calls(["a"], crew, mendable)])
        self.assertEqual(mendable, saved)

    def test_no_part(self):
        for value in ANY_VALUES + ["d", "g", ("a",), ["a"], "ab", ("a", "b")]:
            self.parts_refused([value], 0)
            self.parts_refused(["a", value], 1)
            self.parts_refused(("c", "b", value, value), 2)
            if not isinstance(value, (list, tuple)) and value is not None:
                self.parts_refused(value, 0)
        self.parts_refused(["a", "c", "a"], 2)


class TestCopies(unittest.TestCase):
    def test_nothing_is_changed(self):
        sensors, mendable = ["b"], ["b", "a"]
        for crew in (0, 1):
            first = blind(BOTH, sensors, crew, mendable=mendable)
            saved = copy.deepcopy(first)
            check = is_blind_plan if first[0] == "kept" else is_blind_attack
            self.assertIs(check(BOTH, sensors, crew, mendable, first[1]), True)
            self.assertEqual((first, sensors, mendable), (saved, ["b"], ["b", "a"]))
            first[1].clear()
            self.assertEqual(blind(BOTH, sensors, crew, mendable=mendable), saved)


if __name__ == "__main__":
    unittest.main()
