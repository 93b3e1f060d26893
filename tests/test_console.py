import copy
import unittest

from faultorder.console import Console, replies
from faultorder.errors import BadText
from faultorder.mending import least_crew
from faultorder.orders import least_orders
from faultorder.runs import Run
from tests.making import ANY_VALUES, Choices, made_plants, plant_of

BOTH = plant_of("a b", [("g", "all", ("a", "b"))])
PLANT = plant_of("b a *s", [("u", "spare", ("a", "s")), ("x", "any", ("b", "a")), ("g", "all", ("x", "u"))])
CAUSE = plant_of("c b a", [("two", "least", 2, ("a", "b", "c")), ("all", "all", ("c", "b", "a"))], [("b", ("c", "a"))])
NEVER = plant_of("a *s", [("g", "all", ("a", "s"))])
ANY = plant_of("a b", [("g", "any", ("a", "b"))])


def told(plant, *lines):
    console = Console(plant)
    return [console.reply(line) for line in lines]


class TestQuestions(unittest.TestCase):
    def test_the_example_of_the_document(self):
        self.assertEqual(replies(BOTH, "fail a\nstate\nmend a\ncrew\ncrew 2\n"), ["a", "a", "none", "1", "unknown"])

    def test_events(self):
        self.assertEqual(told(PLANT, "fail a", "fail s", "mend a", "fail b", "mend s", "mend b"),
                         ["a", "s stopped", "none", "b", "none", "none"])
        self.assertEqual(told(PLANT, "fail b", "fail a", "fail s", "mend b", "mend a"),
                         ["b", "a", "s stopped", "none stopped", "none"])

    def test_parts_that_fail_by_one_event(self):
        self.assertEqual(told(CAUSE, "fail b", "state", "mend c", "mend b", "fail b"),
                         ["b c a stopped", "a b c", "none", "none", "b c stopped"])

    def test_state(self):
        self.assertEqual(told(PLANT, "state", "fail b", "state", "fail a", "state", "mend b", "state", "mend a", "state"),
                         ["none", "b", "b", "a", "a b", "none", "a", "none", "none"])

    def test_true(self):
        self.assertEqual(told(PLANT, "true", "fail a", "true", "fail s", "true"), ["none", "a", "x", "s stopped", "u x g"])
        self.assertEqual(told(CAUSE, "fail b", "true"), ["b c a stopped", "two all"])

    def test_possible(self):
        self.assertEqual(told(PLANT, "possible", "fail a", "possible", "fail s", "fail b", "possible"),
                         ["fail a, fail b", "a", "fail b, fail s, mend a", "s stopped", "b stopped", "mend a, mend b, mend s"])
        self.assertEqual(told(plant_of("*a", [("g", "all", ("a",))]), "possible", "state", "true"), ["none"] * 3)

    def test_orders(self):
        self.assertEqual(told(BOTH, "orders"), ["a-b b-a"])
        plant = plant_of("a b c", [("two", "least", 2, ("a", "b", "c"))], [("a", ("c",))])
        self.assertEqual(told(plant, "orders"), ["a b-c c-b"])
        self.assertEqual(told(NEVER, "orders"), ["none"])
        self.assertEqual(told(BOTH, "fail a", "orders"), ["a", "a-b b-a"])

    def test_crew(self):
        self.assertEqual([told(plant, "crew") for plant in (BOTH, NEVER, ANY)], [["1"], ["0"], ["never"]])
        self.assertEqual(told(BOTH, "fail a", "fail b", "crew"), ["a", "b stopped", "1"])

    def test_undo_redo_and_begin(self):
        self.assertEqual(told(BOTH, "fail a", "fail b", "undo", "state", "redo", "state", "begin", "state", "undo", "state"),
                         ["a", "b stopped", "ok", "a", "ok", "a b", "ok", "none", "ok", "a b"])
        self.assertEqual(told(BOTH, "begin", "undo", "redo", "undo", "undo"), ["ok", "ok", "ok", "ok", "error nothingleft"])
        self.assertEqual(told(BOTH, "fail a", "undo", "state", "crew", "orders", "true", "possible", "redo", "state")[-2:],
                         ["ok", "a"])

    def test_a_part_whose_name_is_none(self):
        plant = plant_of("none ok", [("stop", "all", ("none",)), ("error", "all", ("none", "ok"))], [], "error")
        self.assertEqual(told(plant, "state", "fail none", "state", "true", "orders", "fail ok", "mend none", "possible"),
                         ["none", "none", "none", "stop", "none-ok ok-none", "ok stopped", "none", "fail none, mend ok"])
        plant = plant_of("fail undo", [("mend", "any", ("fail", "undo"))])
        self.assertEqual(told(plant, "fail fail", "fail undo", "undo", "mend fail", "mend mend", "true"),
                         ["fail stopped", "undo stopped", "ok", "none", "error noevent", "none"])

    def test_against_runs(self):
        for seed, (values, plant) in enumerate(made_plants(40, 4, 5)):
            choices, run, console = Choices(seed), Run(plant), Console(plant)
            for _ in range(12):
                event = (choices.one(["fail", "fail", "mend"]), choices.one(values[0])[0])
                reply = console.reply(" ".join(event))
                if event in run.possible():
                    fallen = run.do(event)
                    wanted = " ".join(fallen) if fallen else "none"
                    self.assertEqual(reply, wanted + " stopped" if run.stopped else wanted)
                else:
                    self.assertEqual(reply, "error noevent")
                truths = run.truths()
                gates = [gate[0] for gate in values[1] if truths[gate[0]]]
                self.assertEqual([console.reply(line) for line in ("state", "true", "possible")],
                                 [" ".join(run.state[0]) or "none", " ".join(gates) or "none",
                                  ", ".join(word + " " + part for word, part in run.possible()) or "none"])
            orders = " ".join("-".join(order) for order in least_orders(plant)) or "none"
            crew = least_crew(plant)
            self.assertEqual([console.reply("orders"), console.reply("crew")],
                             [orders, "never" if crew is None else str(crew)])


class TestErrors(unittest.TestCase):
    def test_no_event(self):
        for line in ["fail s", "mend a", "fail u", "mend g", "fail zz", "mend abcdef"]:
            self.assertEqual(told(PLANT, line, "state", "undo"), ["error noevent", "none", "error nothingleft"])

    def test_nothing_left(self):
        self.assertEqual(told(PLANT, "undo", "redo", "fail a", "redo", "undo", "undo", "redo", "redo"),
                         ["error nothingleft", "error nothingleft", "a", "error nothingleft", "ok", "error nothingleft", "ok",
                          "error nothingleft"])

    def test_an_error_changes_nothing(self):
        self.assertEqual(told(PLANT, "fail a", "undo", "fail s", "mend a", "undo", "nonsense", "fail A", None, "redo", "state"),
                         ["a", "ok", "error noevent", "error noevent", "error nothingleft", "unknown", "unknown", "unknown",
                          "ok", "a"])

    def test_unknown(self):
        for line in ["", " ", "fail", "mend", "fail ", "mend ", " fail a", "fail  a", "fail a ", "fail a b", "fail a stopped",
                     "fail A", "fail abcdefg", "fail a1", "fail 1", "fail -", "Fail a", "FAIL a", "fail\ta", "fail a\n", "a",
                     "state ", " state", "state a", "state state", "State", "true ", "true g", "possible a", "orders 1",
                     "orders ", "crew 1", "crew 0", "crew ", "undo 1", "undo ", "redo a", "begin a", "begin ", "begin\n",
                     "log", "ask 1", "journal", "none", "ok", "stopped", "truths", "fail,a", "mend A", "top g", "cause a b",
                     "fail a\nstate", "event fail a", "copy", "unknown"]:
            self.assertEqual(told(PLANT, line, "state", "undo"), ["unknown", "none", "error nothingleft"], line)

    def test_any_value(self):
        for value in ANY_VALUES + [["state"], ("state",), {"state": True}, [], ("fail", "a"), ["fail", "a"]]:
            saved = copy.deepcopy(value)
            self.assertEqual(told(PLANT, value, "state", "undo"), ["unknown", "none", "error nothingleft"])
            self.assertEqual(value, saved)

    def test_by_name(self):
        console = Console(plant=PLANT)
        self.assertEqual(console.reply(line="fail a"), "a")
        self.assertEqual(replies(plant=PLANT, text="fail a"), ["a"])


class TestReplies(unittest.TestCase):
    def test_the_last_line(self):
        for text, answers in [("", []), ("state", ["none"]), ("state\n", ["none"]), ("\n", ["unknown"]),
                              ("state\n\n", ["none", "unknown"]), ("\nstate", ["unknown", "none"]),
                              ("\n\n", ["unknown", "unknown"]), ("fail a\n\nstate\n", ["a", "unknown", "a"]),
                              ("fail a\nstate\n ", ["a", "a", "unknown"])]:
            self.assertEqual(replies(PLANT, text), answers)

    def test_a_new_console_each_time(self):
        for _ in range(2):
            self.assertEqual(replies(PLANT, "state\nfail a\nundo\nredo"), ["none", "a", "ok", "ok"])

    def test_as_the_console_replies(self):
        lines = ["fail a", "fail s", "x", "possible", "true", "undo", "undo", "undo", "redo", "begin", "orders", "crew"]
        self.assertEqual(replies(PLANT, "\n".join(lines)), told(PLANT, *lines))

    def test_any_value(self):
        for value in ANY_VALUES + [["state"], ("state",)]:
            if isinstance(value, str):
                self.assertEqual(set(replies(PLANT, value)) | {"unknown"}, {"unknown"})
                continue
            saved = copy.deepcopy(value)
            with self.assertRaises(BadText) as caught:
                replies(PLANT, value)
            self.assertEqual((caught.exception.line, value), (0, saved))
            self.assertIs(type(caught.exception.line), int)

    def test_what_is_returned_is_new(self):
        answers = replies(PLANT, "state")
        answers.clear()
        self.assertEqual(replies(PLANT, "state"), ["none"])

    def test_two_consoles(self):
        one, other = Console(PLANT), Console(PLANT)
        one.reply("fail a")
        self.assertEqual((one.reply("state"), other.reply("state"), other.reply("undo")), ("a", "none", "error nothingleft"))


if __name__ == "__main__":
    unittest.main()
