import copy
import unittest

from faultorder import runs
from faultorder.bench import Bench
from faultorder.errors import FaultError
from faultorder.judge import first_wrong
from faultorder.mending import kept
from tests.making import ANY_VALUES, Choices, made_plants, plant_of
from tests.sessions import some_operation

PLANT = plant_of("a b *s", [("u", "spare", ("a", "s")), ("x", "any", ("a", "b")), ("g", "all", ("u", "b"))])
FAIL_A, FAIL_B, FAIL_S = [("event", ("fail", name)) for name in "abs"]
MEND_A = ("event", ("mend", "a"))
CAUSE = ("cause", "a", ("b",))
TOP = ("top", "x")
BEGIN = ("begin",)


def a_journal():
    """The journal of a session in which everything comes."""
    bench = Bench(PLANT)
    bench.do_all([FAIL_A, FAIL_S, MEND_A])
    bench.undo()
    bench.ask(1)
    bench.redo()
    bench.do_all([CAUSE, FAIL_A, BEGIN])
    bench.ask(0)
    bench.do_all([TOP, FAIL_B])
    bench.ask(2)
    bench.undo()
    bench.undo()
    bench.undo()
    bench.redo()
    return bench.journal()


JOURNAL = a_journal()


class TestRightJournals(unittest.TestCase):
    def test_an_empty_journal(self):
        for none in ([], ()):
            self.assertIsNone(first_wrong(PLANT, none))

    def test_the_journal_of_a_bench_and_each_beginning_of_it(self):
        self.assertEqual(len(JOURNAL), 17)
        for many in range(len(JOURNAL) + 1):
            self.assertIsNone(first_wrong(PLANT, JOURNAL[:many]))
            self.assertIsNone(first_wrong(PLANT, list(JOURNAL[:many])))

    def test_benches_of_many_plants(self):
        words = set()
        for seed, (values, plant) in enumerate(made_plants(40, 4, 4)):
            choices, bench = Choices(seed), Bench(plant)
            for _ in range(20):
                word = choices.one(["do", "do", "do", "undo", "redo", "ask"])
                try:
                    if word == "do":
                        bench.do(some_operation(choices, values, runs.at(bench.plant, bench.state)))
                    elif word == "ask":
                        bench.ask(choices.below(3))
                    else:
                        getattr(bench, word)()
                except FaultError:
                    continue
            journal = bench.journal()
            words |= {entry[0] for entry in journal}
            self.assertIsNone(first_wrong(plant, journal))
            self.check_one_left_out(plant, journal)
        self.assertEqual(words, {"done", "undone", "redone", "asked"})

    def check_one_left_out(self, plant, journal):
        """What stands ahead of a wrong entry is right, and what stands behind it does not count."""
        for at in range(len(journal)):
            wrong = first_wrong(plant, journal[:at] + journal[at + 1:])
            if wrong is not None:
                self.assertGreaterEqual(wrong, at)
                self.assertIsNone(first_wrong(plant, (journal[:at] + journal[at + 1:])[:wrong]))

    def test_another_plant(self):
        other = plant_of("b s", [("g", "all", ("b", "s"))])
        self.assertEqual(first_wrong(other, JOURNAL), 0)
        other = plant_of("a b *s", [("u", "spare", ("a", "s")), ("x", "any", ("a", "b")), ("g", "any", ("u", "b"))])
        self.assertEqual(first_wrong(other, JOURNAL), 4)

    def test_by_name(self):
        self.assertIsNone(first_wrong(plant=PLANT, journal=JOURNAL))


class TestWrongEntries(unittest.TestCase):
    def wrong_at(self, at, *entries):
        """Each of some entries is wrong at an index of the journal."""
        for entry in entries:
            saved = copy.deepcopy(entry)
            self.assertEqual(first_wrong(PLANT, JOURNAL[:at] + (entry,) + JOURNAL[at + 1:]), at, entry)
            self.assertEqual(first_wrong(PLANT, list(JOURNAL[:at]) + [entry]), at, entry)
            self.assertEqual(entry, saved)

    def test_one_entry_left_out(self):
        told = {at: first_wrong(PLANT, JOURNAL[:at] + JOURNAL[at + 1:]) for at in range(len(JOURNAL))}
        # s cannot fail unless u uses it; nothing was taken back; a brings nothing down; the answer is of another top.
        wrong = {0: 0, 3: 4, 6: 6, 10: 11}
        self.assertEqual(told, {at: wrong.get(at) for at in range(len(JOURNAL))})

    def test_one_entry_doubled(self):
        told = {at: first_wrong(PLANT, JOURNAL[:at] + (entry,) + JOURNAL[at:]) for at, entry in enumerate(JOURNAL)}
        # What has failed cannot fail, what works cannot be mended, and what was done again is not to be done again.
        for at in told:
            if at in (0, 1, 2, 5, 7, 11):
                self.assertEqual(told[at], at + 1)
            else:
                self.assertTrue(told[at] is None or told[at] > at + 1, at)

    def test_two_entries_exchanged(self):
        told = {at: first_wrong(PLANT, JOURNAL[:at] + JOURNAL[at:at + 2][::-1] + JOURNAL[at + 2:])
                for at in range(len(JOURNAL) - 1)}
        # Behind the mend there is nothing to redo, nor behind the cause; the answer is not for the other top.
        wrong = {0: 0, 2: 5, 5: 6, 6: 6, 9: 10}
        self.assertEqual(told, {at: wrong.get(at) for at in told})

    def test_one_entry_cut_short(self):
        for at, entry in enumerate(JOURNAL):
            for many in range(len(entry)):
                self.wrong_at(at, entry[:many])
            self.wrong_at(at, entry + (None,), entry + ((),), (None,) + entry, (entry,), entry[1:])

    def test_lists_as_entries(self):
        for at, entry in enumerate(JOURNAL):
            self.wrong_at(at, list(entry), {entry[0]: True}, entry[0])

    def test_any_value_as_an_entry(self):
        for at in range(len(JOURNAL)):
            self.wrong_at(at, *ANY_VALUES)

    def test_other_words(self):
        for at, entry in enumerate(JOURNAL):
            rest = entry[1:]
            self.wrong_at(at, ("Done",) + rest, ("undo",) + rest, ("",) + rest, (None,) + rest, (("done",),) + rest)
            if len(entry) == 3:
                other = "done" if entry[0] == "asked" else "asked"
                self.wrong_at(at, (other,) + rest, ("undone",) + rest, ("redone",) + rest)

    def test_results(self):
        for at, entry in enumerate(JOURNAL):
            if entry[0] == "done":
                word, operation, result = entry
                for value in ANY_VALUES + [("a",), ("b",), ("a", "b"), ("b", "a"), ["a"], "a", ("s",), None, (), ("a", "b", "s")]:
                    if value != result:
                        self.wrong_at(at, (word, operation, value))

    def test_operations(self):
        self.wrong_at(0, ("done", MEND_A, ()), ("done", FAIL_S, ("s",)), ("done", ("cause", "a", ()), None),
                      ("done", ("cause", "a", ["b"]), None), ("done", ("cause", "zz", ("b",)), None),
                      ("done", ("top", "a"), None), ("done", ("begin", None), None), ("done", list(FAIL_A), ("a",)),
                      ("done", ("event", ["fail", "a"]), ("a",)), ("done", ("fail", "a"), ("a",)), ("done", None, None))
        for value in ANY_VALUES:
            self.wrong_at(0, ("done", value, None), ("done", ("event", value), ()), ("done", ("top", value), None),
                          ("done", ("cause", value, ("a",)), None), ("done", (value,), None))
        four = tuple([("done", CAUSE, None)] * 4)
        self.assertIsNone(first_wrong(PLANT, four))
        self.assertEqual(first_wrong(PLANT, four + (("done", CAUSE, None),)), 4)

    def test_undo_and_redo(self):
        self.wrong_at(0, ("undone",), ("redone",))
        self.wrong_at(1, ("redone",))
        self.assertEqual(first_wrong(PLANT, JOURNAL[:3] + (("undone",),) * 4), 6)
        self.assertEqual(first_wrong(PLANT, JOURNAL[:3] + (("undone",),) * 3 + (("redone",),) * 4), 9)
        back_and_forth = (("undone",), ("redone",))
        self.assertIsNone(first_wrong(PLANT, JOURNAL[:3] + back_and_forth * 3 + (("undone",),) * 3))
        self.assertEqual(first_wrong(PLANT, JOURNAL[:3] + back_and_forth * 3 + (("undone",),) * 4), 12)
        # Another operation ends what can be done again; a question does not.
        back = JOURNAL[:3] + (("undone",), ("undone",))
        again = ("redone",)
        self.assertIsNone(first_wrong(PLANT, back + (again, again)))
        self.assertIsNone(first_wrong(PLANT, back + (("asked", 1, kept(PLANT, 1)), again, again)))
        self.assertEqual(first_wrong(PLANT, back + (("done", FAIL_B, ("b",)), again)), 6)
        self.assertEqual(first_wrong(PLANT, back + (("done", BEGIN, None), again)), 6)
        self.assertIsNone(first_wrong(PLANT, back + (("done", BEGIN, None), ("undone",), again)))

    def test_what_is_undone_leads_to_the_very_state(self):
        start = (("done", FAIL_A, ("a",)), ("done", FAIL_S, ("s",)), ("done", CAUSE, None), ("undone",))
        self.assertIsNone(first_wrong(PLANT, start + (("done", MEND_A, ()),)))
        self.assertIsNone(first_wrong(PLANT, start + (("redone",), ("done", FAIL_A, ("a", "b")))))
        self.assertEqual(first_wrong(PLANT, start + (("done", FAIL_A, ("a", "b")),)), 4)
        self.assertEqual(first_wrong(PLANT, start + (("redone",), ("done", MEND_A, ()))), 5)


class TestAnswers(unittest.TestCase):
    def told(self, crew, answer, before=()):
        return first_wrong(PLANT, tuple([("done", operation, None) for operation in before]) + (("asked", crew, answer),))

    def test_right_ones(self):
        for crew in (0, 1, 2, 3):
            self.assertIsNone(self.told(crew, kept(PLANT, crew)))
        # A plan for a crew is one for a larger one.
        self.assertIsNone(self.told(2, kept(PLANT, 1)))
        word, plan = kept(PLANT, 1)
        self.assertEqual(word, "kept")
        self.assertIsNone(self.told(1, (word, {key: plan[key] for key in reversed(list(plan))})))

    def test_an_attack_with_other_ranks(self):
        word, attack = kept(PLANT, 0)
        self.assertEqual(word, "lost")
        other = {state: (rank + 7, part) for state, (rank, part) in attack.items()}
        self.assertIsNone(self.told(0, (word, other)))

    def test_wrong_crews(self):
        plan, attack = kept(PLANT, 1), kept(PLANT, 0)
        self.assertEqual(self.told(0, plan), 0)
        self.assertEqual(self.told(1, attack), 0)
        for crew in ANY_VALUES + [True, False, -1, "1", None, (1,)]:
            if isinstance(crew, bool) or not isinstance(crew, int) or crew < 0:
                self.assertEqual((self.told(crew, plan), self.told(crew, attack)), (0, 0))

    def test_wrong_answers(self):
        for crew in (0, 1):
            word, told = kept(PLANT, crew)
            other = "lost" if word == "kept" else "kept"
            wrongs = [(other, told), [word, told], (word,), (word, told, told), (told, word), told, word, (word, {}),
                      (word, list(told.items())), (word, None), (True, told), (word.upper(), told), ({}, {}), ()]
            for key in told:
                wrongs.append((word, {same: told[same] for same in told if same != key}))
                wrongs.append((word, {**told, key: None}))
                wrongs.append((word, {**told, key: list(told[key])}))
            wrongs.append((word, {**told, ((), (), ()): (0, "a")}))
            for answer in wrongs + ANY_VALUES:
                saved = copy.deepcopy(answer)
                self.assertEqual(self.told(crew, answer), 0, answer)
                self.assertEqual(answer, saved)
            for value in ANY_VALUES:
                self.assertEqual((self.told(crew, (word, value)), self.told(crew, (value, told))), (0, 0))

    def test_true_for_one_as_a_rank(self):
        plant = plant_of("a b", [("g", "all", ("a", "b"))])
        word, attack = kept(plant, 0)
        self.assertIsNone(first_wrong(plant, [("asked", 0, (word, attack))]))
        same = {state: (True if rank == 1 else rank, part) for state, (rank, part) in attack.items()}
        self.assertEqual(same, attack)
        self.assertEqual(first_wrong(plant, [("asked", 0, (word, same))]), 0)
        self.assertEqual(first_wrong(plant, [("asked", False, (word, attack))]), 0)

    def test_of_the_plant_then(self):
        answers = [kept(PLANT, 1), kept(plant_of("a b *s", PLANT.gates, [("a", ("b",))], "g"), 1),
                   kept(plant_of("a b *s", PLANT.gates, [], "x"), 1)]
        ahead = [(), (CAUSE,), (TOP,)]
        for at, answer in enumerate(answers):
            for other, operations in enumerate(ahead):
                right = answer == answers[other]
                self.assertEqual(self.told(1, answer, operations), None if right else len(operations))
        self.assertNotEqual(answers[0], answers[2])

    def test_of_its_beginning(self):
        entries = (("done", FAIL_A, ("a",)), ("done", FAIL_S, ("s",)), ("asked", 1, kept(PLANT, 1)))
        self.assertIsNone(first_wrong(PLANT, entries))


class TestNoJournal(unittest.TestCase):
    def test_any_value(self):
        for value in ANY_VALUES + ["undone", {("undone",): True}, None, {}]:
            saved = copy.deepcopy(value)
            told = first_wrong(PLANT, value)
            self.assertEqual(told, None if value in ([], ()) else 0, value)
            self.assertEqual(value, saved)

    def test_it_always_tells_the_same(self):
        for journal in (JOURNAL, JOURNAL[1:], list(JOURNAL)):
            saved = copy.deepcopy(journal)
            self.assertEqual(first_wrong(PLANT, journal), first_wrong(PLANT, journal))
            self.assertEqual(journal, saved)

    def test_two_hundred_entries(self):
        bench = Bench(PLANT)
        for _ in range(50):
            bench.do_all([FAIL_A, MEND_A])
            bench.undo()
            bench.redo()
        journal = bench.journal()
        self.assertEqual((len(journal), first_wrong(PLANT, journal)), (200, None))
        self.assertEqual(first_wrong(PLANT, journal + (("redone",),)), 200)


if __name__ == "__main__":
    unittest.main()
