import copy
import unittest
from fractions import Fraction

from faultorder.chances import chance, mean, shares
from faultorder.errors import NoNumber, NoOdds
from tests import reference
from tests.making import ANY_VALUES, Choices, made_plants, plant_of, values_of

FA, FB, MA, MB = ("fail", "a"), ("fail", "b"), ("mend", "a"), ("mend", "b")
BOTH = plant_of("a b", [("g", "all", ("a", "b"))])
ANY = plant_of("a b", [("g", "any", ("a", "b"))])
BEFORE = plant_of("a b", [("g", "before", "a", "b")])
NEVER = plant_of("a *s", [("g", "all", ("a", "s"))])
HALF = {FA: (1, 2), FB: (1, 2)}


def pair(fraction):
    return fraction.numerator, fraction.denominator


def made_odds(choices, names, most=1000):
    """Odds for some events of these parts, and the same with Fractions."""
    chosen = choices.some([(word, name) for word in ("fail", "fail", "mend") for name in names], 5)
    parts = {event: Fraction(1 + choices.below(20), 1) for event in chosen}
    whole = sum(parts.values()) + choices.one([0, 0, 1, 7, 30])
    told = {event: worth / whole for event, worth in parts.items()}
    return {event: pair(worth) for event, worth in told.items()}, told


class TestChance(unittest.TestCase):
    def test_the_example_of_the_document(self):
        self.assertEqual((chance(BOTH, HALF, 2), mean(BOTH, HALF)), ((1, 2), (3, 1)))

    def test_by_hand(self):
        for count, told in enumerate([(0, 1), (0, 1), (1, 2), (3, 4), (7, 8), (15, 16)]):
            self.assertEqual(chance(BOTH, HALF, count), told)
        for count, told in enumerate([(0, 1), (1, 1), (1, 1)]):
            self.assertEqual(chance(ANY, HALF, count), told)
        quarter = {FA: (1, 4), FB: (1, 4)}
        for count, told in enumerate([(0, 1), (1, 2), (3, 4), (7, 8)]):
            self.assertEqual(chance(ANY, quarter, count), told)
        # a first and then b, with anything else between; b first, and it is never mended.
        self.assertEqual([chance(BEFORE, quarter, count) for count in range(4)], [(0, 1), (0, 1), (1, 16), (9, 64)])

    def test_no_odds_no_stop(self):
        self.assertEqual((chance(BOTH, {}, 0), chance(BOTH, {}, 40)), ((0, 1), (0, 1)))
        self.assertEqual((shares(BOTH, {}, 40), mean(BOTH, {})), ({}, None))

    def test_what_is_not_possible_does_nothing(self):
        # s is cold and never used; mends come at the beginning; a fails twice.
        for odds in ({("fail", "s"): (1, 1)}, {("mend", "a"): (1, 2), ("mend", "s"): (1, 2)}, {FA: (1, 1)}):
            self.assertEqual((chance(NEVER, odds, 40), shares(NEVER, odds, 40), mean(NEVER, odds)), ((0, 1), {}, None))

    def test_what_happens_behind_the_first_stop_does_not_count(self):
        for odds in ({FA: (1, 2), MA: (1, 2)}, {FA: (1, 2), MA: (1, 2 ** 10)}, {FA: (1, 2)}):
            plant = plant_of("a", [("g", "all", ("a",))])
            self.assertEqual([chance(plant, odds, count) for count in range(4)], [(0, 1), (1, 2), (3, 4), (7, 8)])
            self.assertEqual(shares(plant, odds, 3), {FA: (7, 8)})
            self.assertEqual(mean(plant, odds), (2, 1))

    def test_sums_of_one_and_below_one(self):
        self.assertEqual(chance(ANY, {FA: (2, 3), FB: (1, 3)}, 1), (1, 1))
        self.assertEqual(chance(ANY, {FA: (1, 3), FB: (1, 2)}, 1), (5, 6))
        self.assertEqual(chance(ANY, {FA: (1, 3), FB: (1, 2)}, 2), (35, 36))

    def test_mends(self):
        odds = {FA: (1, 4), FB: (1, 4), MA: (1, 4), MB: (1, 4)}
        self.assertEqual([chance(BOTH, odds, count) for count in range(5)],
                         [pair(sum(reference.drawn(values_of(BOTH), fractions(odds), count).values(), Fraction(0)))
                          for count in range(5)])
        self.assertEqual(mean(BOTH, odds), (8, 1))

    def test_forty_draws(self):
        self.assertEqual(chance(BOTH, HALF, 40), (2 ** 39 - 1, 2 ** 39))
        told = chance(ANY, {FA: (1, 1000), FB: (1, 999)}, 40)
        self.assertEqual(Fraction(*told), 1 - (1 - Fraction(1, 1000) - Fraction(1, 999)) ** 40)
        self.assertEqual(pair(Fraction(*told)), told)

    def test_against_sums_over_all_rows_of_draws(self):
        sure, never, between = 0, 0, 0
        for seed, (values, plant) in enumerate(made_plants(120, 3, 6)):
            choices = Choices(seed)
            odds, worths = made_odds(choices, [name for name, _ in values[0]])
            for count in range(4):
                wanted = reference.drawn(values, worths, count)
                self.assertEqual(shares(plant, odds, count), {event: pair(wanted[event]) for event in wanted})
                self.assertEqual(list(shares(plant, odds, count)), sorted(wanted))
                total = sum(wanted.values(), Fraction(0))
                self.assertEqual(chance(plant, odds, count), pair(total))
            sure, never, between = sure + (total == 1), never + (total == 0), between + (0 < total < 1)
        self.assertGreater(never, 10)
        self.assertGreater(between, 30)

    def test_by_name(self):
        self.assertEqual(chance(plant=BOTH, odds=HALF, count=2), (1, 2))
        self.assertEqual(shares(plant=BOTH, odds=HALF, count=2), {FA: (1, 4), FB: (1, 4)})
        self.assertEqual(mean(plant=BOTH, odds=HALF), (3, 1))


def fractions(odds):
    return {event: Fraction(*worth) for event, worth in odds.items()}


class TestShares(unittest.TestCase):
    def test_by_hand(self):
        self.assertEqual(shares(BOTH, HALF, 1), {})
        self.assertEqual(shares(BOTH, HALF, 3), {FA: (3, 8), FB: (3, 8)})
        self.assertEqual(shares(BEFORE, {FA: (1, 4), FB: (1, 4)}, 3), {FB: (9, 64)})
        self.assertEqual(shares(ANY, {FB: (1, 2), FA: (1, 6)}, 1), {FA: (1, 6), FB: (1, 2)})

    def test_by_the_event_that_stops_the_plant(self):
        # b stops it by the cause of a too, but the event is the failure of a.
        plant = plant_of("a b", [("g", "any", ("b",))], [("a", ("b",))])
        self.assertEqual(shares(plant, HALF, 2), {FA: (1, 2), FB: (1, 2)})

    def test_ascending_keys_whatever_the_order_of_the_odds(self):
        plant = plant_of("b a c", [("g", "any", ("a", "b", "c"))])
        for order in ("abc", "cba", "bca"):
            odds = {("fail", name): (1, 4) for name in order}
            self.assertEqual(list(shares(plant, odds, 2).items()), [(("fail", name), (5, 16)) for name in "abc"])


class TestMean(unittest.TestCase):
    def test_by_hand(self):
        self.assertEqual(mean(ANY, HALF), (1, 1))
        self.assertEqual(mean(ANY, {FA: (1, 1000)}), (1000, 1))
        self.assertEqual(mean(BOTH, {FA: (1, 3), FB: (1, 6)}), pair(2 + Fraction(2, 3) * 6 + Fraction(1, 3) * 3))

    def test_a_stop_that_can_be_missed_for_ever(self):
        # b first, and the plant never stops, unless b is mended.
        self.assertIsNone(mean(BEFORE, HALF))
        self.assertIsNone(mean(BEFORE, {FA: (1, 2), FB: (1, 4), MA: (1, 4)}))
        self.assertEqual(mean(BEFORE, {FA: (1, 2), FB: (1, 4), MB: (1, 4)}),
                         pair(reference.mean(values_of(BEFORE), fractions({FA: (1, 2), FB: (1, 4), MB: (1, 4)}))))
        self.assertIsNone(mean(BOTH, {FA: (1, 2)}))
        self.assertIsNone(mean(NEVER, {FA: (1, 2), MA: (1, 2)}))

    def test_mends_do_not_hinder_for_ever(self):
        plant = plant_of("a b c", [("g", "all", ("a", "b", "c"))])
        odds = {**{("fail", name): (1, 10) for name in "abc"}, **{("mend", name): (7, 30) for name in "abc"}}
        self.assertEqual(mean(plant, odds), pair(reference.mean(values_of(plant), fractions(odds))))
        self.assertGreater(Fraction(*mean(plant, odds)), 50)

    def test_against_equations_of_all_states(self):
        found = {True: 0, False: 0}
        for seed, (values, plant) in enumerate(made_plants(150, 3, 6)):
            choices = Choices(seed)
            odds, worths = made_odds(choices, [name for name, _ in values[0]])
            wanted = reference.mean(values, worths)
            self.assertEqual(mean(plant, odds), None if wanted is None else pair(wanted))
            found[wanted is None] += 1
        self.assertGreater(min(found.values()), 20)

    def test_every_event_of_a_plant(self):
        # So stops are sure wherever there are any.
        found = 0
        for seed, (values, plant) in enumerate(made_plants(60, 4, 5)):
            choices = Choices(seed)
            every = [(word, name) for name, _ in values[0] for word in ("fail", "mend")]
            odds = {event: (1, 20 + choices.below(10)) for event in every}
            wanted = reference.mean(values, fractions(odds))
            self.assertEqual(mean(plant, odds), None if wanted is None else pair(wanted))
            found += wanted is not None
        self.assertGreater(found, 30)

    def test_many_rows(self):
        names = "abcd"
        gates = [("w" + name, "before", name, names[(at + 1) % 4]) for at, name in enumerate(names)]
        plant = plant_of(" ".join(names), gates + [("top", "all", ("wa", "wb", "wc"))])
        odds = {**{("fail", name): (1, 20 + at) for at, name in enumerate(names)},
                **{("mend", name): (1, 130 + at) for at, name in enumerate(names)}}
        value = Fraction(*mean(plant, odds))
        # What is left to come behind many draws is little, and so the mean is near to the sum of what was missed.
        missed = [1 - Fraction(*chance(plant, odds, count)) for count in range(41)]
        self.assertGreater(value, sum(missed))
        self.assertEqual(pair(value), mean(plant, odds))
        self.assertEqual(value, reference.mean(values_of(plant), fractions(odds)))


class TestNoOdds(unittest.TestCase):
    def refused(self, odds):
        kept = copy.deepcopy(odds)
        for call in (lambda: chance(BOTH, odds, 2), lambda: shares(BOTH, odds, 2), lambda: mean(BOTH, odds),
                     lambda: chance(BOTH, odds, None), lambda: shares(BOTH, odds, -1)):
            with self.assertRaises(NoOdds, msg=odds):
                call()
        self.assertEqual(odds, kept)

    def test_what_is_no_dict(self):
        for value in ANY_VALUES + [[(FA, (1, 2))], (FA, (1, 2)), FA, [FA]]:
            if value != {}:
                self.refused(value)

    def test_keys(self):
        for key in [value for value in ANY_VALUES if not isinstance(value, (list, dict)) and value != ((),)]:
            self.refused({key: (1, 2)})
            self.refused({FA: (1, 2), key: (1, 2)})
        for key in [("fail", "c"), ("fail", "g"), ("fall", "a"), ("a", "fail"), ("fail", "a", "a"), ("fail",), "a", (),
                    ("fail", ("a",)), (FA,), (FA, FB), ((),), "fail a"]:
            self.refused({key: (1, 2)})
            self.refused({FA: (1, 2), key: (1, 2)})

    def test_fractions(self):
        for worth in ANY_VALUES + [(1, 0), (0, 1), (-1, 2), (1, -2), (-1, -2), (2, 4), (2, 2), (0, 0), (0, 2), (3, 3),
                                   (1, 2, 3), (1,), [1, 2], (1, None), (None, 2), (1, "2"), (True, 2), (1, True),
                                   (True, True), ((1, 2),), "1/2", 1, (1, (2,)), (10 ** 39, 10 ** 39)]:
            self.refused({FA: worth})
            self.refused({FA: (1, 2), FB: worth})
            self.refused({FB: worth, FA: (1, 2)})

    def test_sums_above_one(self):
        for odds in [{FA: (2, 1)}, {FA: (3, 2)}, {FA: (1, 2), FB: (2, 3)}, {FA: (1, 1), FB: (1, 10 ** 39)},
                     {FA: (1, 3), FB: (1, 3), MA: (1, 3), MB: (1, 1000)}, {FA: (501, 1000), FB: (1, 2)}]:
            self.refused(odds)
        for odds in [{FA: (1, 1)}, {FA: (1, 3), FB: (1, 3), MA: (1, 3)}, {FA: (499, 1000), FB: (1, 2)},
                     {FA: (1, 2), FB: (1, 3), MB: (1, 6)}, {FA: (1, 10 ** 39)}]:
            self.assertEqual(chance(BOTH, odds, 0), (0, 1))

    def test_events_that_are_never_possible_are_odds(self):
        self.assertEqual(chance(NEVER, {("fail", "s"): (1, 2), ("mend", "s"): (1, 2)}, 3), (0, 1))


class TestNoNumber(unittest.TestCase):
    def test_any_value(self):
        for count in ANY_VALUES + [-1, -10 ** 39, "2", (2,), [2], {2: 2}]:
            if isinstance(count, bool) or not isinstance(count, int) or count < 0:
                kept = copy.deepcopy(count)
                for call in (chance, shares):
                    with self.assertRaises(NoNumber, msg=count) as caught:
                        call(BOTH, HALF, count)
                    self.assertEqual(caught.exception.number, count)
                    self.assertIs(type(caught.exception.number), type(count))
                self.assertEqual(count, kept)

    def test_from_zero(self):
        self.assertEqual((chance(BOTH, HALF, 0), shares(BOTH, HALF, 0)), ((0, 1), {}))


class TestCopies(unittest.TestCase):
    def test_the_order_of_the_keys_means_nothing(self):
        odds = {FA: (1, 7), MB: (2, 7), FB: (1, 5), MA: (1, 9)}
        back = {event: odds[event] for event in reversed(odds)}
        for count in (0, 1, 5):
            self.assertEqual(chance(BOTH, odds, count), chance(BOTH, back, count))
            self.assertEqual(list(shares(BOTH, odds, count).items()), list(shares(BOTH, back, count).items()))
        self.assertEqual(mean(BOTH, odds), mean(BOTH, back))

    def test_nothing_is_changed_and_what_is_returned_is_new(self):
        odds = dict(HALF)
        told = shares(BOTH, odds, 3)
        chance(BOTH, odds, 3)
        mean(BOTH, odds)
        self.assertEqual(list(odds.items()), list(HALF.items()))
        told.clear()
        self.assertEqual(shares(BOTH, odds, 3), {FA: (3, 8), FB: (3, 8)})
        odds[MA] = (1, 2)
        self.assertEqual(shares(BOTH, HALF, 3), {FA: (3, 8), FB: (3, 8)})

    def test_integers_that_are_returned(self):
        for value in (chance(BOTH, {}, 3), chance(ANY, HALF, 1), mean(BOTH, HALF), chance(BOTH, HALF, 0)):
            self.assertIs(type(value), tuple)
            self.assertEqual([type(number) for number in value], [int, int])


if __name__ == "__main__":
    unittest.main()
