import copy
import unittest

from faultorder.bench import Bench
from faultorder.errors import BadPlant, FaultError, NoEvent, NoNumber, NoOperation, NothingLeft
from faultorder.mending import kept
from faultorder.plants import Plant
from faultorder.runs import Run
from tests.making import ANY_VALUES, Choices, made_plants, plant_of
from tests.sessions import NOT_POSSIBLE, Session, some_operation

PLANT = plant_of("a b *s", [("u", "spare", ("a", "s")), ("x", "any", ("a", "b")), ("g", "all", ("u", "b"))])
START = ((), (("u", "a"),), ())
FAIL_A, FAIL_B, FAIL_S = [("event", ("fail", name)) for name in "abs"]
MEND_A = ("event", ("mend", "a"))
CAUSE = ("cause", "a", ("b",))
TOP = ("top", "x")
BEGIN = ("begin",)


def all_of(bench):
    """All that a bench tells."""
    return bench.plant, bench.state, bench.stopped, bench.log(), bench.journal()


def led(operations):
    bench = Bench(PLANT)
    bench.do_all(operations)
    return bench


class TestDo(unittest.TestCase):
    def test_a_new_bench(self):
        self.assertEqual(all_of(Bench(PLANT)), (PLANT, START, False, [], ()))
        self.assertEqual(all_of(Bench(plant=PLANT)), (PLANT, START, False, [], ()))

    def test_events(self):
        bench, run = Bench(PLANT), Run(PLANT)
        for event in [("fail", "a"), ("fail", "s"), ("mend", "a"), ("fail", "b"), ("mend", "s"), ("fail", "a"),
                      ("fail", "s"), ("mend", "b")]:
            self.assertEqual(bench.do(("event", event)), run.do(event))
            self.assertEqual((bench.state, bench.stopped), (run.state, run.stopped))
        self.assertEqual(bench.plant, PLANT)

    def test_a_stop(self):
        bench = led([FAIL_A, FAIL_S])
        self.assertIs(bench.stopped, False)
        bench.do(FAIL_B)
        self.assertIs(bench.stopped, True)
        self.assertEqual(bench.do(MEND_A), ())
        self.assertIs(bench.stopped, False)

    def test_a_cause(self):
        bench = led([FAIL_B])
        self.assertIsNone(bench.do(CAUSE))
        self.assertEqual((bench.plant, bench.state), (Plant(PLANT.parts, PLANT.gates, [("a", ("b",))], "g"), START))
        self.assertEqual(bench.do(FAIL_A), ("a", "b"))
        self.assertIsNone(bench.do(("cause", "b", ("s",))))
        self.assertEqual(bench.plant.causes, (("a", ("b",)), ("b", ("s",))))
        self.assertEqual(bench.do(FAIL_A), ("a", "b", "s"))
        self.assertIs(bench.stopped, True)

    def test_another_top(self):
        bench = led([FAIL_B])
        self.assertIsNone(bench.do(TOP))
        self.assertEqual((bench.plant, bench.state, bench.stopped), (Plant(PLANT.parts, PLANT.gates, [], "x"), START, False))
        bench.do(FAIL_A)
        self.assertIs(bench.stopped, True)
        bench.do(("top", "g"))
        self.assertEqual((bench.plant, bench.stopped), (PLANT, False))

    def test_the_beginning(self):
        bench = led([FAIL_A, FAIL_S, FAIL_B])
        self.assertIsNone(bench.do(BEGIN))
        self.assertEqual((bench.plant, bench.state, bench.stopped), (PLANT, START, False))
        bench = led([CAUSE, FAIL_A, BEGIN])
        self.assertEqual((bench.plant.causes, bench.state), ((("a", ("b",)),), START))

    def test_a_fourth_cause_and_a_fifth(self):
        bench = led([CAUSE] * 3)
        self.assertIsNone(bench.do(CAUSE))
        self.assertEqual(len(bench.plant.causes), 4)
        saved = all_of(bench)
        with self.assertRaises(BadPlant) as caught:
            bench.do(CAUSE)
        self.assertEqual((caught.exception.part, all_of(bench)), (2, saved))
        bench.undo()
        bench.do(("cause", "g", ("s",)))
        self.assertEqual(len(bench.plant.causes), 4)

    def test_a_top_that_is_true_at_the_beginning(self):
        plant = plant_of("a b", [("u", "spare", ("a",)), ("v", "spare", ("a",)), ("g", "all", ("a", "b"))])
        bench = Bench(plant)
        bench.do(("event", ("fail", "a")))
        saved = all_of(bench)
        with self.assertRaises(BadPlant) as caught:
            bench.do(("top", "v"))
        self.assertEqual((caught.exception.part, all_of(bench)), (3, saved))
        self.assertIsNone(bench.do(("top", "u")))

    def test_words_as_names(self):
        plant = plant_of("event cause", [("begin", "any", ("event",)), ("top", "all", ("event", "cause"))])
        bench = Bench(plant)
        self.assertEqual(bench.do_all([("event", ("fail", "cause")), ("top", "begin"), ("cause", "event", ("cause",)),
                                       ("event", ("fail", "event"))]), [("cause",), None, None, ("event", "cause")])
        self.assertEqual((bench.plant.top, bench.plant.causes), ("begin", (("event", ("cause",)),)))

    def test_by_name(self):
        bench = Bench(PLANT)
        self.assertEqual(bench.do(operation=FAIL_A), ("a",))
        self.assertEqual(bench.do_all(operations=[FAIL_B, MEND_A]), [("b",), ()])
        self.assertEqual(bench.ask(crew=1), kept(PLANT, 1))

    def test_against_a_second_model(self):
        counts = {"done": 0, "undone": 0, "redone": 0, "refused": 0}
        for seed, (values, plant) in enumerate(made_plants(60, 4, 5)):
            choices, bench, session = Choices(seed), Bench(plant), Session(values)
            for _ in range(25):
                word = choices.one(["do"] * 6 + ["undo"] * 3 + ["redo"] * 3)
                if word == "do":
                    operation = some_operation(choices, session.played()[0], session.model())
                    wanted, call = session.do(operation), lambda: bench.do(operation)
                else:
                    wanted = session.undo() if word == "undo" else session.redo()
                    call = bench.undo if word == "undo" else bench.redo
                if wanted == NOT_POSSIBLE:
                    counts["refused"] += 1
                    self.assertRaises(FaultError, call)
                else:
                    self.assertEqual(call(), wanted)
                model = session.model()
                self.assertEqual(all_of(bench), (session.plant(), model.state(), model.is_true(model.top), session.log,
                                                 tuple(session.entries)))
            for entry in session.entries:
                counts[entry[0]] += 1
        self.assertGreater(min(counts.values()), 100)


class TestUndoAndRedo(unittest.TestCase):
    def test_back_and_forth_across_plants(self):
        bench = Bench(PLANT)
        operations = [FAIL_A, FAIL_S, CAUSE, FAIL_B, TOP, FAIL_A, BEGIN, ("cause", "g", ("a",)), FAIL_B, FAIL_A]
        places = [(bench.plant, bench.state, bench.stopped)]
        for operation in operations:
            bench.do(operation)
            places.append((bench.plant, bench.state, bench.stopped))
        for at in range(len(operations) - 1, -1, -1):
            self.assertIsNone(bench.undo())
            self.assertEqual(((bench.plant, bench.state, bench.stopped), bench.log()), (places[at], operations[:at]))
        self.assertRaises(NothingLeft, bench.undo)
        for at in range(1, len(operations) + 1):
            self.assertIsNone(bench.redo())
            self.assertEqual(((bench.plant, bench.state, bench.stopped), bench.log()), (places[at], operations[:at]))
        self.assertRaises(NothingLeft, bench.redo)

    def test_nothing_left(self):
        bench = Bench(PLANT)
        for _ in range(2):
            self.assertRaises(NothingLeft, bench.undo)
            self.assertRaises(NothingLeft, bench.redo)
        self.assertEqual(all_of(bench), (PLANT, START, False, [], ()))
        bench.do(FAIL_A)
        self.assertRaises(NothingLeft, bench.redo)
        bench.undo()
        self.assertRaises(NothingLeft, bench.undo)
        bench.redo()
        self.assertRaises(NothingLeft, bench.redo)
        self.assertEqual(bench.journal(), (("done", FAIL_A, ("a",)), ("undone",), ("redone",)))

    def test_redo_behind_an_operation_that_was_refused(self):
        bench = led([FAIL_A])
        bench.undo()
        for wrong in [MEND_A, ("cause", "a", ()), ("top", "a"), ("other",), None]:
            with self.assertRaises(FaultError):
                bench.do(wrong)
            with self.assertRaises(FaultError):
                bench.do_all([FAIL_B, wrong])
        self.assertRaises(NoNumber, bench.ask, -1)
        self.assertRaises(NothingLeft, bench.undo)
        self.assertIsNone(bench.redo())
        self.assertEqual(bench.log(), [FAIL_A])

    def test_redo_behind_a_question(self):
        bench = led([FAIL_A])
        bench.undo()
        bench.ask(1)
        self.assertIsNone(bench.redo())
        self.assertEqual((bench.log(), [entry[0] for entry in bench.journal()]),
                         ([FAIL_A], ["done", "undone", "asked", "redone"]))

    def test_redo_behind_another_operation(self):
        for other in (FAIL_B, CAUSE, TOP, BEGIN, FAIL_A):
            bench = led([FAIL_A, FAIL_S])
            bench.undo()
            bench.undo()
            bench.do(other)
            self.assertRaises(NothingLeft, bench.redo)
            self.assertEqual(bench.log(), [other])
            bench.undo()
            bench.redo()
            self.assertRaises(NothingLeft, bench.redo)

    def test_redo_behind_an_empty_list(self):
        bench = led([FAIL_A])
        bench.undo()
        for none in ([], ()):
            self.assertEqual(bench.do_all(none), [])
        bench.redo()
        self.assertEqual(bench.log(), [FAIL_A])


class TestDoAll(unittest.TestCase):
    def test_each_one_is_an_operation_of_its_own(self):
        bench = Bench(PLANT)
        self.assertEqual(bench.do_all([FAIL_A, CAUSE, FAIL_A, BEGIN, TOP]), [("a",), None, ("a", "b"), None, None])
        self.assertEqual(bench.log(), [FAIL_A, CAUSE, FAIL_A, BEGIN, TOP])
        self.assertEqual(bench.journal(), (("done", FAIL_A, ("a",)), ("done", CAUSE, None), ("done", FAIL_A, ("a", "b")),
                                           ("done", BEGIN, None), ("done", TOP, None)))
        bench.undo()
        bench.undo()
        self.assertEqual((bench.plant.top, bench.state[0], bench.log()), ("g", ("a", "b"), [FAIL_A, CAUSE, FAIL_A]))

    def test_a_tuple(self):
        bench = Bench(PLANT)
        self.assertEqual(bench.do_all((FAIL_A, FAIL_B)), [("a",), ("b",)])

    def test_an_empty_list(self):
        bench = led([FAIL_A])
        saved = all_of(bench)
        self.assertEqual((bench.do_all([]), bench.do_all(())), ([], []))
        self.assertEqual(all_of(bench), saved)

    def test_all_or_none(self):
        bench = led([FAIL_A])
        saved = all_of(bench)
        for wrong, error, attribute, value in [
                ([CAUSE, FAIL_A, FAIL_A], NoEvent, "index", 0), ([FAIL_B, TOP, MEND_A], NoEvent, "index", 0),
                ([FAIL_B, CAUSE, CAUSE, CAUSE, CAUSE, CAUSE], BadPlant, "part", 2), ([TOP, ("top", "a")], BadPlant, "part", 3),
                ([BEGIN, ("cause", "zz", ("a",)), MEND_A], BadPlant, "part", 2),
                ([FAIL_A, ("cause", "zz", ("a",))], NoEvent, "index", 0), ([FAIL_B, ("begin", 1)], NoOperation, "index", 1),
                ([FAIL_A, ("top", "a"), ("end",)], NoOperation, "index", 2)]:
            with self.assertRaises(error) as caught:
                bench.do_all(wrong)
            self.assertEqual((getattr(caught.exception, attribute), all_of(bench)), (value, saved))
        bench.undo()
        self.assertEqual(bench.log(), [])

    def test_what_is_possible_behind_those_ahead(self):
        bench = Bench(PLANT)
        self.assertEqual(bench.do_all([FAIL_A, FAIL_S, MEND_A, FAIL_A]), [("a",), ("s",), (), ("a",)])


class TestNoOperation(unittest.TestCase):
    def wrongs(self):
        """Values that are no operations by their form."""
        yield from ANY_VALUES
        for operation in (FAIL_A, CAUSE, TOP, BEGIN):
            yield list(operation)
            yield operation + (None,)
            yield operation[:-1]
            yield operation[1:]
            yield (operation,)
            yield (operation[0].upper(),) + operation[1:]
            yield ((operation[0],),) + operation[1:]
        yield from [("event", "fail", "a"), ("fail", "a"), ("top",), ("begin", ()), ("cause", ("a", ("b",))), "begin", ("undo",),
                    {"begin": True}, {0: "begin"}, ("event",), ("cause", "a"), (None, ("fail", "a")), ([], 1), ({},)]

    def test_the_form(self):
        for wrong in self.wrongs():
            bench = led([FAIL_A, FAIL_B])
            bench.undo()
            saved, kept_value = all_of(bench), copy.deepcopy(wrong)
            for call, index in [(lambda: bench.do(wrong), 0), (lambda: bench.do_all([wrong]), 0),
                                (lambda: bench.do_all([MEND_A, wrong, wrong]), 1),
                                (lambda: bench.do_all((FAIL_A, ("top", "zz"), wrong)), 2)]:
                with self.assertRaises(NoOperation, msg=wrong) as caught:
                    call()
                self.assertEqual(caught.exception.index, index)
            self.assertEqual((all_of(bench), wrong), (saved, kept_value))
            bench.redo()

    def test_no_list(self):
        for wrong in ANY_VALUES + ["begin", {BEGIN: True}]:
            if not isinstance(wrong, (list, tuple)):
                bench = Bench(PLANT)
                with self.assertRaises(NoOperation) as caught:
                    bench.do_all(wrong)
                self.assertEqual((caught.exception.index, all_of(bench)), (0, (PLANT, START, False, [], ())))

    def test_an_operation_is_no_list_of_operations(self):
        for wrong in (FAIL_A, CAUSE, TOP, BEGIN):
            self.assertRaises(NoOperation, Bench(PLANT).do_all, wrong)


class TestRefused(unittest.TestCase):
    def refused(self, operation, error, attribute, value):
        bench = led([FAIL_A, FAIL_B])
        bench.undo()
        saved, kept_value = all_of(bench), copy.deepcopy(operation)
        for call in (lambda: bench.do(operation), lambda: bench.do_all([operation]), lambda: bench.do_all([BEGIN, operation])):
            with self.assertRaises(error, msg=operation) as caught:
                call()
            self.assertEqual(getattr(caught.exception, attribute), value)
        self.assertEqual((all_of(bench), operation), (saved, kept_value))
        bench.redo()
        self.assertEqual(bench.log(), [FAIL_A, FAIL_B])

    def test_no_event(self):
        for event in ANY_VALUES + [("mend", "b"), ("fail", "u"), ("fail", "zz"), ["fail", "b"], ("fail", "b", "b"), "fail b",
                                   ("Fail", "b"), ("mend", "s"), (("fail", "b"),)]:
            self.refused(("event", event), NoEvent, "index", 0)

    def test_a_cause_that_is_none(self):
        for value in ANY_VALUES + ["zz", ["a"]]:
            self.refused(("cause", value, ("b",)), BadPlant, "part", 2)
        for value in ANY_VALUES + ["b", ["b"], ("b", "b"), ("b", "u"), ("b", "zz"), ("b", ("s",)), ("u",), ()]:
            if value != ("a",):
                self.refused(("cause", "a", value), BadPlant, "part", 2)

    def test_a_top_that_is_none(self):
        for value in ANY_VALUES + ["a", "zz", ("g",), ["g"], "G"]:
            self.refused(("top", value), BadPlant, "part", 3)


class TestAsk(unittest.TestCase):
    def test_of_the_plant_now_from_its_beginning(self):
        bench = led([FAIL_A, FAIL_S])
        for crew in (0, 1, 2):
            self.assertEqual(bench.ask(crew), kept(PLANT, crew))
        bench.do(TOP)
        bench.do(FAIL_A)
        self.assertEqual((bench.stopped, bench.ask(1)), (True, kept(Plant(PLANT.parts, PLANT.gates, [], "x"), 1)))
        bench.do(("top", "g"))
        bench.do(CAUSE)
        self.assertEqual(bench.ask(1), kept(Plant(PLANT.parts, PLANT.gates, [("a", ("b",))], "g"), 1))
        bench.undo()
        self.assertEqual(bench.ask(1), kept(PLANT, 1))

    def test_it_stands_in_the_journal_alone(self):
        bench = led([FAIL_A])
        saved = all_of(bench)
        answers = [bench.ask(crew) for crew in (1, 0)]
        self.assertEqual(all_of(bench), saved[:4] + (saved[4] + (("asked", 1, answers[0]), ("asked", 0, answers[1])),))
        bench.undo()
        self.assertEqual((bench.log(), bench.journal()[-1]), ([], ("undone",)))

    def test_no_number(self):
        for crew in ANY_VALUES + [-1, -10 ** 39, "1", (1,), None]:
            if isinstance(crew, bool) or not isinstance(crew, int) or crew < 0:
                bench = led([FAIL_A])
                saved = all_of(bench)
                with self.assertRaises(NoNumber) as caught:
                    bench.ask(crew)
                self.assertEqual((caught.exception.number, all_of(bench)), (crew, saved))
                self.assertIs(type(caught.exception.number), type(crew))


class TestCopies(unittest.TestCase):
    def test_a_copy_goes_its_own_way(self):
        bench = led([FAIL_A, CAUSE, FAIL_B])
        bench.ask(1)
        bench.undo()
        twin = bench.copy()
        self.assertIsInstance(twin, Bench)
        saved = all_of(bench)
        self.assertEqual(all_of(twin), saved)
        twin.redo()
        twin.undo()
        twin.undo()
        twin.do(TOP)
        twin.ask(0)
        self.assertEqual(all_of(bench), saved)
        bench.redo()
        self.assertEqual(bench.log(), [FAIL_A, CAUSE, FAIL_B])
        self.assertEqual(twin.log(), [FAIL_A, TOP])
        self.assertRaises(NothingLeft, twin.redo)

    def test_what_a_bench_does_leaves_its_copy(self):
        bench = led([FAIL_A, FAIL_S])
        bench.undo()
        twin = bench.copy()
        saved = all_of(twin)
        bench.do_all([CAUSE, FAIL_A])
        bench.undo()
        bench.ask(1)
        self.assertEqual(all_of(twin), saved)
        twin.redo()
        self.assertEqual(twin.log(), [FAIL_A, FAIL_S])
        twin.undo()
        twin.undo()
        self.assertEqual((twin.plant, twin.state, twin.log()), (PLANT, START, []))

    def test_a_copy_of_a_copy(self):
        bench = led([CAUSE, FAIL_A]).copy().copy()
        self.assertEqual((bench.log(), bench.stopped, bench.state[0]), ([CAUSE, FAIL_A], False, ("a", "b")))

    def test_lists_and_dicts_that_are_returned(self):
        bench = led([FAIL_A])
        answer = bench.ask(1)
        saved = copy.deepcopy(all_of(bench))
        bench.log().clear()
        answer[1].clear()
        self.assertEqual(all_of(bench), saved)
        bench.journal()[1][2][1].clear()
        self.assertEqual(all_of(bench), saved)
        twin = bench.copy()
        twin.journal()[1][2][1].clear()
        self.assertEqual((all_of(bench), all_of(twin)), (saved, saved))
        self.assertEqual(bench.ask(1), kept(PLANT, 1))

    def test_lists_that_are_passed(self):
        bench, operations = Bench(PLANT), [FAIL_A, CAUSE]
        told = bench.do_all(operations)
        self.assertEqual(operations, [FAIL_A, CAUSE])
        operations.clear()
        told.clear()
        self.assertEqual(bench.log(), [FAIL_A, CAUSE])
        self.assertEqual(bench.journal(), (("done", FAIL_A, ("a",)), ("done", CAUSE, None)))

    def test_the_plant_that_is_passed(self):
        bench = led([CAUSE, TOP])
        self.assertEqual((PLANT.causes, PLANT.top, bench.plant.top), ((), "g", "x"))

    def test_nothing_can_be_set(self):
        bench = Bench(PLANT)
        for name in ("plant", "state", "stopped"):
            with self.assertRaises(AttributeError):
                setattr(bench, name, None)


if __name__ == "__main__":
    unittest.main()
